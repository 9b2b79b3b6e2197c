import Derived.Test.YtdkogbfamdnheaaGreatDoorJ10
import Derived.Test.YtdkogbfamdnheaaGreatDoorTk
namespace Go.Proofs.YtdkogbfamdnheaaGreatDoor
open Go.RowKit Go.Shelf Sx
set_option maxRecDepth 100000
set_option maxHeartbeats 16000000
set_option linter.unusedSimpArgs false
set_option linter.unusedVariables false
structure Ev where
 t : Int
 k : Int
 l : Int
 v : Int
 m : Int
def Ev.dec (a b : Ev) : Decidable (a = b) :=
 decidable_of_iff (a.t = b.t ∧ a.k = b.k ∧ a.l = b.l ∧ a.v = b.v ∧ a.m = b.m) ⟨fun h => by obtain ⟨x1, x2, x3, x4, x5⟩ := a; obtain ⟨y1, y2, y3, y4, y5⟩ := b; obtain ⟨h1, h2, h3, h4, h5⟩ := h; dsimp only at h1 h2 h3 h4 h5; subst h1 h2 h3 h4 h5; rfl, fun h => by subst h; exact ⟨rfl, rfl, rfl, rfl, rfl⟩⟩
def Ev.ndec (a b : Ev) : Decidable (a ≠ b) := @instDecidableNot _ (Ev.dec a b)
theorem Ev.ndec_false {a b : Ev} (h : @decide (a ≠ b) (Ev.ndec a b) = false) : a = b := Classical.not_not.1 (@of_decide_eq_false _ (Ev.ndec a b) h)
structure EvsAt (w : World) (s o : Nat) (l : List Ev) : Prop where
 lt : s < w.heap.size
 c0 : ∀ (i : Nat) (e : Ev), l[i]? = some e → w.cell? ⟨s, o + i * 5, none⟩ = some (.int .i64 e.t)
 c1 : ∀ (i : Nat) (e : Ev), l[i]? = some e → w.cell? ⟨s, o + i * 5 + 1, none⟩ = some (.int .i64 e.k)
 c2 : ∀ (i : Nat) (e : Ev), l[i]? = some e → w.cell? ⟨s, o + i * 5 + 2, none⟩ = some (.int .i64 e.l)
 c3 : ∀ (i : Nat) (e : Ev), l[i]? = some e → w.cell? ⟨s, o + i * 5 + 3, none⟩ = some (.int .u64 e.v)
 c4 : ∀ (i : Nat) (e : Ev), l[i]? = some e → w.cell? ⟨s, o + i * 5 + 4, none⟩ = some (.int .i64 e.m)
theorem EvsAt.below {w w' : World} {s o : Nat} {l : List Ev} (h : EvsAt w s o l) (hb : Below w.heap.size w w') : EvsAt w' s o l :=
 ⟨Nat.lt_of_lt_of_le h.lt hb.size, fun i e he => (hb.cell (p := ⟨s, o + i * 5, none⟩) h.lt).trans (h.c0 i e he), fun i e he => (hb.cell (p := ⟨s, o + i * 5 + 1, none⟩) h.lt).trans (h.c1 i e he), fun i e he => (hb.cell (p := ⟨s, o + i * 5 + 2, none⟩) h.lt).trans (h.c2 i e he), fun i e he => (hb.cell (p := ⟨s, o + i * 5 + 3, none⟩) h.lt).trans (h.c3 i e he), fun i e he => (hb.cell (p := ⟨s, o + i * 5 + 4, none⟩) h.lt).trans (h.c4 i e he)⟩
def EvArg (w : World) (v : Value) (l : List Ev) : Prop := ∃ p cap, v = .slice p l.length cap ∧ (0 < l.length → ∃ s o, p = some ⟨s, o, none⟩ ∧ EvsAt w s o l) ∧ l.length * 40 ≤ 140737488355328 ∧ l.length ≤ cap
theorem EvArg.below {w w' : World} {v : Value} {l : List Ev} (h : EvArg w v l) (hb : Below w.heap.size w w') : EvArg w' v l := by
 obtain ⟨p, cap, e, h1, h2⟩ := h
 refine ⟨p, cap, e, fun h0 => ?_, h2⟩
 obtain ⟨s, o, e2, h3⟩ := h1 h0
 exact ⟨s, o, e2, h3.below hb⟩
def CoArg (w : World) (v : Value) (ls : List (List Int)) : Prop := ∃ p cap, v = .slice p ls.length cap ∧ ls.length ≤ 9223372036854775807 ∧ ∃ vs : List Value, vs.length = ls.length ∧
 (0 < ls.length → ∃ s o, p = some ⟨s, o, none⟩ ∧ s < w.heap.size ∧ ∀ (i : Nat) (u : Value), vs[i]? = some u → w.cell? ⟨s, o + i, none⟩ = some u) ∧ ∀ (i : Nat) (u : Value) (l : List Int), vs[i]? = some u → ls[i]? = some l → IntsR w u l ∧ l.length ≤ 9223372036854775807 ∧ ∃ p c, u = .slice p l.length c ∧ l.length ≤ c
theorem CoArg.below {w w' : World} {v : Value} {ls : List (List Int)} (h : CoArg w v ls) (hb : Below w.heap.size w w') : CoArg w' v ls := by
 obtain ⟨p, cap, e, hl, vs, h1, h2, h3⟩ := h
 refine ⟨p, cap, e, hl, vs, h1, fun h0 => ?_, fun i u l hu hl => ⟨(h3 i u l hu hl).1.below hb, (h3 i u l hu hl).2⟩⟩
 obtain ⟨s, o, e2, h4, h5⟩ := h2 h0
 exact ⟨s, o, e2, Nat.lt_of_lt_of_le h4 hb.size, fun i u hu => (hb.cell (p := ⟨s, o + i, none⟩) h4).trans (h5 i u hu)⟩
structure Gr where
 cells : Int
 evs : List Ev
 rf : List (Int × Int)
 co : List (List Int)
 rmw : List (Int × Int)
 addr : List (Int × Int)
 dat : List (Int × Int)
 ctrl : List (Int × Int)
structure GrV where
 ev : Value
 rf : Value
 co : Value
 rmw : Value
 addr : Value
 dat : Value
 ctrl : Value
structure GrR (w : World) (V : GrV) (g : Gr) : Prop where
 ev : EvArg w V.ev g.evs
 rf : PArg w V.rf g.rf
 co : CoArg w V.co g.co
 rmw : PArg w V.rmw g.rmw
 addr : PArg w V.addr g.addr
 dat : PArg w V.dat g.dat
 ctrl : PArg w V.ctrl g.ctrl
theorem GrR.below {w w' : World} {V : GrV} {g : Gr} (h : GrR w V g) (hb : Below w.heap.size w w') : GrR w' V g :=
 ⟨h.ev.below hb, h.rf.below hb, h.co.below hb, h.rmw.below hb, h.addr.below hb, h.dat.below hb, h.ctrl.below hb⟩
def GrV.cs (V : GrV) (g : Gr) (q : Bool) : Array Value := #[.int .i64 g.cells, V.ev, V.rf, V.co, V.rmw, V.addr, V.dat, V.ctrl, .bool q]
def GrV.val (V : GrV) (g : Gr) : Value := .agg #[.int .i64 g.cells, V.ev, V.rf, V.co, V.rmw, V.addr, V.dat, V.ctrl]
structure BkR (w : World) (b : Nat) (V : GrV) (g : Gr) (q : Bool) : Prop where
 blk : Blk w b 138 (V.cs g q)
 gr : GrR w V g
theorem BkR.below {w w' : World} {b : Nat} {V : GrV} {g : Gr} {q : Bool} (h : BkR w b V g q) (hb : Below w.heap.size w w') : BkR w' b V g q := ⟨h.blk.of_below hb, h.gr.below hb⟩
theorem BkR.cells {w : World} {b : Nat} {V : GrV} {g : Gr} {q : Bool} (h : BkR w b V g q) : w.cell? ⟨b, 0, none⟩ = some (.int .i64 g.cells) := h.blk.cell rfl
theorem BkR.evs {w : World} {b : Nat} {V : GrV} {g : Gr} {q : Bool} (h : BkR w b V g q) : w.cell? ⟨b, 1, none⟩ = some V.ev := h.blk.cell rfl
theorem BkR.rfs {w : World} {b : Nat} {V : GrV} {g : Gr} {q : Bool} (h : BkR w b V g q) : w.cell? ⟨b, 2, none⟩ = some V.rf := h.blk.cell rfl
theorem BkR.cos {w : World} {b : Nat} {V : GrV} {g : Gr} {q : Bool} (h : BkR w b V g q) : w.cell? ⟨b, 3, none⟩ = some V.co := h.blk.cell rfl
theorem BkR.rmws {w : World} {b : Nat} {V : GrV} {g : Gr} {q : Bool} (h : BkR w b V g q) : w.cell? ⟨b, 4, none⟩ = some V.rmw := h.blk.cell rfl
theorem BkR.addrs {w : World} {b : Nat} {V : GrV} {g : Gr} {q : Bool} (h : BkR w b V g q) : w.cell? ⟨b, 5, none⟩ = some V.addr := h.blk.cell rfl
theorem BkR.dats {w : World} {b : Nat} {V : GrV} {g : Gr} {q : Bool} (h : BkR w b V g q) : w.cell? ⟨b, 6, none⟩ = some V.dat := h.blk.cell rfl
theorem BkR.ctrls {w : World} {b : Nat} {V : GrV} {g : Gr} {q : Bool} (h : BkR w b V g q) : w.cell? ⟨b, 7, none⟩ = some V.ctrl := h.blk.cell rfl
theorem BkR.wds {w : World} {b : Nat} {V : GrV} {g : Gr} {q : Bool} (h : BkR w b V g q) : w.cell? ⟨b, 8, none⟩ = some (.bool q) := h.blk.cell rfl
structure Frm (w : World) : Prop where
 lt : 1 < w.heap.size
 c : ∀ j, j < 8 → w.cell? ⟨1, j, none⟩ = some (.int .i64 (([0, 0, 38, 71680, 42, 10240, 60, 49152] : List Int).getD j 0))
theorem Frm.below {w w' : World} (h : Frm w) {n : Nat} (hn : 1 < n) (hb : Below n w w') : Frm w' := ⟨Nat.lt_of_lt_of_le h.lt hb.size, fun j hj => (hb.cell (p := ⟨1, j, none⟩) hn).trans (h.c j hj)⟩
theorem Frm.step {w w' : World} (h : Frm w) (hb : Below w.heap.size w w') : Frm w' := h.below h.lt hb
def Qbo (g : Gr) : Bool := decide (g.cells < 0) || decide (4096 < g.cells) || decide ((g.evs.length : Int) < g.cells) || decide (256 < g.evs.length)
theorem Qts (b : Nat) (V : GrV) (g : Gr) (q : Bool) (w : World) (h : BkR w b V g q) :
  Calls Tryz.prog 116 #[pv b] w fun e w' => e = .returned (.int .i64 (if Qbo g then 0 else -1)) ∧ w' = w := by
 obtain ⟨p, cap, e, _, _⟩ := h.gr.ev
 have c0 := h.cells
 have c1 := h.evs
 rw [e] at c1
 by_cases h1 : g.cells < 0
 ·rw [show Qbo g = true from by simp [Qbo, h1]]
  go_enter Tryz.func116, Tryz.ntmps116
  go_wp2_with fail
  go_ret
  exact ⟨rfl, rfl⟩
 ·by_cases h2 : (4096 : Int) < g.cells
  ·rw [show Qbo g = true from by simp [Qbo, h2]]
   go_enter Tryz.func116, Tryz.ntmps116
   go_wp2_with fail
   go_ret
   exact ⟨rfl, rfl⟩
  ·by_cases h3 : (g.evs.length : Int) < g.cells
   ·rw [show Qbo g = true from by simp [Qbo, h3]]
    go_enter Tryz.func116, Tryz.ntmps116
    go_wp2_with fail
    go_ret
    exact ⟨rfl, rfl⟩
   ·by_cases h4 : (256 : Int) < (g.evs.length : Int)
    ·rw [show Qbo g = true from by simp [Qbo]; omega]
     go_enter Tryz.func116, Tryz.ntmps116
     go_wp2_with fail
     go_ret
     exact ⟨rfl, rfl⟩
    ·rw [show Qbo g = false from by simp [Qbo]; omega]
     go_enter Tryz.func116, Tryz.ntmps116
     go_wp2_with fail
     go_ret
     exact ⟨rfl, rfl⟩
def GrB (g : Gr) : Prop := g.rf.length * 16 ≤ 140737488355328 ∧ g.rmw.length * 16 ≤ 140737488355328 ∧ g.addr.length * 16 ≤ 140737488355328 ∧ g.dat.length * 16 ≤ 140737488355328 ∧ g.ctrl.length * 16 ≤ 140737488355328 ∧ g.co.length * 24 ≤ 140737488355328 ∧ ∀ l ∈ g.co, l.length * 8 ≤ 140737488355328
def Qib (e : Ev) : Nat → Option Value
 | 0 => some (.int .i64 e.t)
 | 1 => some (.int .i64 e.k)
 | 2 => some (.int .i64 e.l)
 | 3 => some (.int .u64 e.v)
 | 4 => some (.int .i64 e.m)
 | _ => none
def Qe9 (A : List Nat) (via p : Nat) : List Nat := if (gr A p).testBit via then A.set p (gr A p ||| gr A via) else A
def Qck (A : List Nat) (via k : Nat) : List Nat := (List.range k).foldl (fun A p => Qe9 A via p) A
def Qc9 (L : List Nat) (k : Nat) : List Nat := (List.range k).foldl (fun A via => Qck A via L.length) L
def Qci (L : List Nat) : List Nat := Qc9 L L.length
theorem Qp4 (A : List Nat) (via p : Nat) : (Qe9 A via p).length = A.length := by unfold Qe9; split <;> simp
theorem Qic (A : List Nat) (via k : Nat) : Qck A via (k + 1) = Qe9 (Qck A via k) via k := by simp [Qck, List.range_succ]
theorem Qkr (L : List Nat) (k : Nat) : Qc9 L (k + 1) = Qck (Qc9 L k) k L.length := by simp [Qc9, List.range_succ]
theorem Qjz (A : List Nat) (via k : Nat) : (Qck A via k).length = A.length := by
 induction k with
 | zero => rfl
 | succ k ih => rw [Qic, Qp4, ih]
theorem Qid (L : List Nat) (k : Nat) : (Qc9 L k).length = L.length := by
 induction k with
 | zero => rfl
 | succ k ih => rw [Qkr, Qjz, ih]
theorem Qyu (ba ca : Nat) (L : List Nat) (w : World) (h : IsRel w ba ca L) :
  Calls Tryz.prog 69 #[pv ba] w fun e w' => ∃ b c, e = .returned (pv b) ∧ Made w w' b c (Qci L) := by
 have hl := h.len
 go_enter Tryz.func69, Tryz.ntmps69
 go_wp2_with fail
 refine (Qw6 ba ca L _ h).mono ?_
 rintro e w1 ⟨b, c, rfl, hM1⟩
 have hh := hM1.rel.hcell
 go_wp2_with fail
 clear hh h
 go_loopw [13] (fun i wr => ∃ k : Nat, k ≤ L.length ∧ i = .int .i64 k ∧ Made w wr b c (Qc9 L k)) (fun i _ => L.length - (intOf i).toNat)
 case atStart => exact ⟨0, oW, rfl, hM1⟩
 case round =>
  clear hM1
  obtain ⟨k, hk, rfl, hM⟩ := hrel
  by_cases hlt : k < L.length
  ·have HE : Hid (_ = _) := Qkr L k
   have hlA := Qid L k
   generalize Qc9 L k = A at *
   have hh := hM.rel.hcell
   rw [hlA] at hh
   have HA : Hid (A.length = L.length) := hlA
   clear hlA
   go_wp2_with fail
   clear hh
   go_loopw [21] (fun i wr => ∃ p : Nat, p ≤ L.length ∧ i = .int .i64 p ∧ Made w wr b c (Qck A k p)) (fun i _ => L.length - (intOf i).toNat)
   case atStart => exact ⟨0, oW, rfl, hM⟩
   case round =>
    clear hM
    obtain ⟨p, hp, rfl, hM⟩ := hrel
    by_cases hlt2 : p < L.length
    ·have HE2 : Hid (_ = _) := Qic A k p
     have hlB : (Qck A k p).length = L.length := by rw [Qjz, HA.out]
     generalize Qck A k p = B at *
     have hpB : p < B.length := by omega
     have hkB : k < B.length := by omega
     obtain ⟨y, ⟨y0, y1, y2, y3⟩, _, q1, q2⟩ := hM.rel.slots (Qb7 hpB)
     have HlB : Hid (B.length = L.length) := hlB
     clear hlB
     have hp256 : p < 256 := by omega
     go_wp2_with fail
     refine (Qiu (gr B p) k oW _).mono ?_
     rintro e w2 ⟨rfl, hB2⟩
     have hM2 := hM.step hB2
     clear y y0 y1 y2 y3 q1 q2 hM hB2
     cases hbit : (gr B p).testBit k
     ·have HF : Hid (Qe9 B k p = B) := by show _ = _; simp [Qe9, hbit]
      go_wp2_with fail
      refine ⟨⟨p + 1, oW, by go_num, ?_⟩, by simp [intOf]; omega⟩
      rw [HE2.out, HF.out]
      exact hM2
     ·have HF : Hid (Qe9 B k p = B.set p (gr B p ||| gr B k)) := by show _ = _; simp [Qe9, hbit]
      have HR : Hid (gr B p ||| gr B k < 2 ^ B.length) := Qrr (hM2.rel.gr_lt p) (hM2.rel.gr_lt k)
      clear hbit
      have hg := Qb7 hpB
      have HG : Hid (B[p]? = some (gr B p)) := hg
      obtain ⟨y, ⟨y0, y1, y2, y3⟩, _, q1, q2⟩ := hM2.rel.slots hg
      obtain ⟨v0, v1, v2, v3⟩ := hM2.rel.cells (Qb7 hkB)
      clear hg
      go_wp2_with fail
      clear hlt hk hp
      refine wp_region_held_drew (S := fun w' => w'.cell? ⟨b, 0, none⟩ = some (.slice (some ⟨c, 0, none⟩) B.length B.length)) kW y (fun hHeld => ?_)
      refine wpAnyH_take (i := 0) (v := pv b) rfl kW kW kW (fun _ _ _ h => h) (Or.inl ⟨by rfl, ?_⟩) hHeld ?_
      ·intro w' hSw
       clear hHeld
       clear y y0 y1 y2 y3 v0 v1 v2 v3
       simp only [List.getElem_toArray, List.getElem_cons_zero]
       go_simp
      simp only [Act.put, List.getElem_toArray, List.getElem_cons_zero, List.setIfInBounds_toArray, List.set_cons_zero, List.set_cons_succ]
      refine wpAnyH_take (i := 1) (v := pv b) rfl kW kW kW (fun _ _ _ h => h) (Or.inl ⟨by rfl, ?_⟩) hHeld ?_
      ·intro w' hSw
       clear hHeld
       clear y y0 y1 y2 y3 v0 v1 v2 v3
       simp only [List.getElem_toArray, List.getElem_cons_zero, List.getElem_cons_succ]
       go_simp
      simp only [Act.put, List.getElem_toArray, List.getElem_cons_zero, List.getElem_cons_succ, List.setIfInBounds_toArray, List.set_cons_zero, List.set_cons_succ]
      refine wpAnyH_take (i := 2) (v := pv b) rfl kW kW kW (fun _ _ _ h => h) (Or.inl ⟨by rfl, ?_⟩) hHeld ?_
      ·intro w' hSw
       clear hHeld
       clear y y0 y1 y2 y3 v0 v1 v2 v3
       simp only [List.getElem_toArray, List.getElem_cons_zero, List.getElem_cons_succ]
       go_simp
      simp only [Act.put, List.getElem_toArray, List.getElem_cons_zero, List.getElem_cons_succ, List.setIfInBounds_toArray, List.set_cons_zero, List.set_cons_succ]
      refine wpAnyH_take (i := 3) (v := .slice (some ⟨c, 0, none⟩) B.length B.length) rfl kW kW kW (fun _ _ _ h => h) (Or.inl ⟨by rfl, ?_⟩) hHeld ?_
      ·intro w' hSw
       clear hHeld
       clear y y0 y1 y2 y3 v0 v1 v2 v3
       simp only [List.getElem_toArray, List.getElem_cons_zero, List.getElem_cons_succ]
       go_simp
      simp only [Act.put, List.getElem_toArray, List.getElem_cons_zero, List.getElem_cons_succ, List.setIfInBounds_toArray, List.set_cons_zero, List.set_cons_succ]
      refine wpAnyH_take (i := 4) (v := .int .i64 ((p : Nat) : Int)) rfl kW kW kW (fun _ _ _ h => h) (Or.inl ⟨by rfl, ?_⟩) hHeld ?_
      ·intro w' hSw
       clear hHeld
       clear y y0 y1 y2 y3 v0 v1 v2 v3
       simp only [List.getElem_toArray, List.getElem_cons_zero, List.getElem_cons_succ]
       go_simp
      simp only [Act.put, List.getElem_toArray, List.getElem_cons_zero, List.getElem_cons_succ, List.setIfInBounds_toArray, List.set_cons_zero, List.set_cons_succ]
      refine wpAnyH_take (i := 5) (v := pv b) rfl kW kW kW (fun _ _ _ h => h) (Or.inl ⟨by rfl, ?_⟩) hHeld ?_
      ·intro w' hSw
       clear hHeld
       clear y y0 y1 y2 y3 v0 v1 v2 v3
       simp only [List.getElem_toArray, List.getElem_cons_zero, List.getElem_cons_succ]
       go_simp
      simp only [Act.put, List.getElem_toArray, List.getElem_cons_zero, List.getElem_cons_succ, List.setIfInBounds_toArray, List.set_cons_zero, List.set_cons_succ]
      refine wpAnyH_take (i := 6) (v := pv b) rfl kW kW kW (fun _ _ _ h => h) (Or.inl ⟨by rfl, ?_⟩) hHeld ?_
      ·intro w' hSw
       clear hHeld
       clear y y0 y1 y2 y3 v0 v1 v2 v3
       simp only [List.getElem_toArray, List.getElem_cons_zero, List.getElem_cons_succ]
       go_simp
      simp only [Act.put, List.getElem_toArray, List.getElem_cons_zero, List.getElem_cons_succ, List.setIfInBounds_toArray, List.set_cons_zero, List.set_cons_succ]
      refine wpAnyH_take (i := 7) (v := pv b) rfl kW kW kW (fun _ _ _ h => h) (Or.inl ⟨by rfl, ?_⟩) hHeld ?_
      ·intro w' hSw
       clear hHeld
       clear y y0 y1 y2 y3 v0 v1 v2 v3
       simp only [List.getElem_toArray, List.getElem_cons_zero, List.getElem_cons_succ]
       go_simp
      simp only [Act.put, List.getElem_toArray, List.getElem_cons_zero, List.getElem_cons_succ, List.setIfInBounds_toArray, List.set_cons_zero, List.set_cons_succ]
      refine wpAnyH_take (i := 8) (v := .slice (some ⟨c, 0, none⟩) B.length B.length) rfl kW kW kW (fun _ _ _ h => h) (Or.inl ⟨by rfl, ?_⟩) hHeld ?_
      ·intro w' hSw
       clear hHeld
       clear y y0 y1 y2 y3 v0 v1 v2 v3
       simp only [List.getElem_toArray, List.getElem_cons_zero, List.getElem_cons_succ]
       go_simp
      simp only [Act.put, List.getElem_toArray, List.getElem_cons_zero, List.getElem_cons_succ, List.setIfInBounds_toArray, List.set_cons_zero, List.set_cons_succ]
      refine wpAnyH_take (i := 9) (v := .int .i64 ((p : Nat) : Int)) rfl kW kW kW (fun _ _ _ h => h) (Or.inl ⟨by rfl, ?_⟩) hHeld ?_
      ·intro w' hSw
       clear hHeld
       clear y y0 y1 y2 y3 v0 v1 v2 v3
       simp only [List.getElem_toArray, List.getElem_cons_zero, List.getElem_cons_succ]
       go_simp
      simp only [Act.put, List.getElem_toArray, List.getElem_cons_zero, List.getElem_cons_succ, List.setIfInBounds_toArray, List.set_cons_zero, List.set_cons_succ]
      refine wpAnyH_take (i := 10) (v := .pointer (some ⟨c, p * 4, none⟩)) rfl kW kW kW (fun _ _ _ h => h) (Or.inl ⟨by rfl, ?_⟩) hHeld ?_
      ·intro w' hSw
       clear hHeld
       clear y y0 y1 y2 y3 v0 v1 v2 v3
       simp only [List.getElem_toArray, List.getElem_cons_zero, List.getElem_cons_succ]
       go_simp
      simp only [Act.put, List.getElem_toArray, List.getElem_cons_zero, List.getElem_cons_succ, List.setIfInBounds_toArray, List.set_cons_zero, List.set_cons_succ]
      refine wpAnyH_take (i := 12) (v := pv b) rfl kW kW kW (fun _ _ _ h => h) (Or.inl ⟨by rfl, ?_⟩) hHeld ?_
      ·intro w' hSw
       clear hHeld
       clear y y0 y1 y2 y3 v0 v1 v2 v3
       simp only [List.getElem_toArray, List.getElem_cons_zero, List.getElem_cons_succ]
       go_simp
      simp only [Act.put, List.getElem_toArray, List.getElem_cons_zero, List.getElem_cons_succ, List.setIfInBounds_toArray, List.set_cons_zero, List.set_cons_succ]
      refine wpAnyH_take (i := 13) (v := pv b) rfl kW kW kW (fun _ _ _ h => h) (Or.inl ⟨by rfl, ?_⟩) hHeld ?_
      ·intro w' hSw
       clear hHeld
       clear y y0 y1 y2 y3 v0 v1 v2 v3
       simp only [List.getElem_toArray, List.getElem_cons_zero, List.getElem_cons_succ]
       go_simp
      simp only [Act.put, List.getElem_toArray, List.getElem_cons_zero, List.getElem_cons_succ, List.setIfInBounds_toArray, List.set_cons_zero, List.set_cons_succ]
      refine wpAnyH_take (i := 14) (v := pv b) rfl kW kW kW (fun _ _ _ h => h) (Or.inl ⟨by rfl, ?_⟩) hHeld ?_
      ·intro w' hSw
       clear hHeld
       clear y y0 y1 y2 y3 v0 v1 v2 v3
       simp only [List.getElem_toArray, List.getElem_cons_zero, List.getElem_cons_succ]
       go_simp
      simp only [Act.put, List.getElem_toArray, List.getElem_cons_zero, List.getElem_cons_succ, List.setIfInBounds_toArray, List.set_cons_zero, List.set_cons_succ]
      refine wpAnyH_take (i := 15) (v := .slice (some ⟨c, 0, none⟩) B.length B.length) rfl kW kW kW (fun _ _ _ h => h) (Or.inl ⟨by rfl, ?_⟩) hHeld ?_
      ·intro w' hSw
       clear hHeld
       clear y y0 y1 y2 y3 v0 v1 v2 v3
       simp only [List.getElem_toArray, List.getElem_cons_zero, List.getElem_cons_succ]
       go_simp
      simp only [Act.put, List.getElem_toArray, List.getElem_cons_zero, List.getElem_cons_succ, List.setIfInBounds_toArray, List.set_cons_zero, List.set_cons_succ]
      refine wpAnyH_take (i := 16) (v := .int .i64 ((k : Nat) : Int)) rfl kW kW kW (fun _ _ _ h => h) (Or.inl ⟨by rfl, ?_⟩) hHeld ?_
      ·intro w' hSw
       clear hHeld
       clear y y0 y1 y2 y3 v0 v1 v2 v3
       simp only [List.getElem_toArray, List.getElem_cons_zero, List.getElem_cons_succ]
       go_simp
      simp only [Act.put, List.getElem_toArray, List.getElem_cons_zero, List.getElem_cons_succ, List.setIfInBounds_toArray, List.set_cons_zero, List.set_cons_succ]
      refine wpAnyH_take (i := 17) (v := .pointer (some ⟨c, k * 4, none⟩)) rfl kW kW kW (fun _ _ _ h => h) (Or.inl ⟨by rfl, ?_⟩) hHeld ?_
      ·intro w' hSw
       clear hHeld
       clear y y0 y1 y2 y3 v0 v1 v2 v3
       simp only [List.getElem_toArray, List.getElem_cons_zero, List.getElem_cons_succ]
       go_simp
      simp only [Act.put, List.getElem_toArray, List.getElem_cons_zero, List.getElem_cons_succ, List.setIfInBounds_toArray, List.set_cons_zero, List.set_cons_succ]
      refine wpAnyH_ready (rs := [11, 18]) kW sW ?_
      refine AllReadyH.cons rfl (fun K hK => ?_) ?_
      ·simp only [List.getElem_toArray, List.getElem_cons_zero, List.getElem_cons_succ]
       go_simp
       refine hK.out _ _ hHeld (fun hHeld => ?_)
       clear hK K
       refine wpAnyH_ready (rs := [18]) kW sW ?_
       refine AllReadyH.cons rfl (fun K hK => ?_) AllReadyH.nil
       simp only [List.getElem_toArray, List.getElem_cons_zero, List.getElem_cons_succ]
       go_simp
       refine hK.out _ _ hHeld (fun hHeld => ?_)
       clear hK K
       refine wpAnyH_ready (rs := [19]) kW sW ?_
       refine AllReadyH.cons rfl (fun K hK => ?_) AllReadyH.nil
       simp only [List.getElem_toArray, List.getElem_cons_zero, List.getElem_cons_succ]
       go_simp
       have hM2a := (hM2.alloc (.cells #[.int .u64 ((wd (gr B p) 0 : Nat) : Int), .int .u64 ((wd (gr B p) 1 : Nat) : Int), .int .u64 ((wd (gr B p) 2 : Nat) : Int), .int .u64 ((wd (gr B p) 3 : Nat) : Int), .int .u64 ((wd (gr B k) 0 : Nat) : Int), .int .u64 ((wd (gr B k) 1 : Nat) : Int), .int .u64 ((wd (gr B k) 2 : Nat) : Int), .int .u64 ((wd (gr B k) 3 : Nat) : Int)] 102)).drew
       refine hK.out _ _ hM2a.rel.hcell (fun hHeld => ?_)
       clear hK K
       refine wpAnyH_ready (rs := [20]) kW sW ?_
       refine AllReadyH.cons rfl (fun K hK => ?_) AllReadyH.nil
       simp only [List.getElem_toArray, List.getElem_cons_zero, List.getElem_cons_succ]
       go_simp
       go_at_call 67
       refine (Qf7 (gr B p) (gr B k) _ _ (by rw [Qjn]; first | exact (Blk.new _ _ _).drew | exact Blk.new _ _ _)).mono ?_
       rintro e w3 ⟨rfl, hB3⟩
       have hM3 := hM2a.step hB3
       refine hK.out _ _ hM3.rel.hcell (fun hHeld => ?_)
       clear hK K y y0 y1 y2 y3 v0 v1 v2 v3
       refine wpAnyH_take (i := 21) (v := .pointer (some ⟨c, p * 4, none⟩)) rfl kW kW kW (fun _ _ _ h => h) (Or.inl ⟨by rfl, ?_⟩) hHeld ?_
       ·intro w' hSw
        clear hHeld
        simp only [List.getElem_toArray, List.getElem_cons_zero, List.getElem_cons_succ]
        go_simp
       simp only [Act.put, List.getElem_toArray, List.getElem_cons_zero, List.getElem_cons_succ, List.setIfInBounds_toArray, List.set_cons_zero, List.set_cons_succ]
       refine wpAnyH_ready (rs := [22]) kW sW ?_
       refine AllReadyH.cons rfl (fun K hK => ?_) AllReadyH.nil
       simp only [List.getElem_toArray, List.getElem_cons_zero, List.getElem_cons_succ]
       obtain ⟨z, ⟨z0, z1, z2, z3⟩, ⟨f0, f1, f2, f3⟩, q5, q6⟩ := hM3.rel.slots HG.out
       go_simp
       have hM5 := hM3.put hpB HR.out
       have hz5 := hM5.rel.hcell
       rw [List.length_set] at hz5
       refine hK.out _ _ hz5 (fun _ => ?_)
       clear hK K
       refine wpAnyH_done kW ?_ _
       clear hHeld z z0 z1 z2 z3 f0 f1 f2 f3 hz5
       go_wp2_with fail
       refine ⟨⟨p + 1, oW, by go_num, ?_⟩, by simp [intOf]; omega⟩
       rw [HE2.out, HF.out]
       exact hM5
      ·refine AllReadyH.cons rfl (fun K hK => ?_) AllReadyH.nil
       simp only [List.getElem_toArray, List.getElem_cons_zero, List.getElem_cons_succ]
       go_simp
       refine hK.out _ _ hHeld (fun hHeld => ?_)
       clear hK K
       refine wpAnyH_ready (rs := [11]) kW sW ?_
       refine AllReadyH.cons rfl (fun K hK => ?_) AllReadyH.nil
       simp only [List.getElem_toArray, List.getElem_cons_zero, List.getElem_cons_succ]
       go_simp
       refine hK.out _ _ hHeld (fun hHeld => ?_)
       clear hK K
       refine wpAnyH_ready (rs := [19]) kW sW ?_
       refine AllReadyH.cons rfl (fun K hK => ?_) AllReadyH.nil
       simp only [List.getElem_toArray, List.getElem_cons_zero, List.getElem_cons_succ]
       go_simp
       have hM2a := (hM2.alloc (.cells #[.int .u64 ((wd (gr B p) 0 : Nat) : Int), .int .u64 ((wd (gr B p) 1 : Nat) : Int), .int .u64 ((wd (gr B p) 2 : Nat) : Int), .int .u64 ((wd (gr B p) 3 : Nat) : Int), .int .u64 ((wd (gr B k) 0 : Nat) : Int), .int .u64 ((wd (gr B k) 1 : Nat) : Int), .int .u64 ((wd (gr B k) 2 : Nat) : Int), .int .u64 ((wd (gr B k) 3 : Nat) : Int)] 102)).drew
       refine hK.out _ _ hM2a.rel.hcell (fun hHeld => ?_)
       clear hK K
       refine wpAnyH_ready (rs := [20]) kW sW ?_
       refine AllReadyH.cons rfl (fun K hK => ?_) AllReadyH.nil
       simp only [List.getElem_toArray, List.getElem_cons_zero, List.getElem_cons_succ]
       go_simp
       go_at_call 67
       refine (Qf7 (gr B p) (gr B k) _ _ (by rw [Qjn]; first | exact (Blk.new _ _ _).drew | exact Blk.new _ _ _)).mono ?_
       rintro e w3 ⟨rfl, hB3⟩
       have hM3 := hM2a.step hB3
       refine hK.out _ _ hM3.rel.hcell (fun hHeld => ?_)
       clear hK K y y0 y1 y2 y3 v0 v1 v2 v3
       refine wpAnyH_take (i := 21) (v := .pointer (some ⟨c, p * 4, none⟩)) rfl kW kW kW (fun _ _ _ h => h) (Or.inl ⟨by rfl, ?_⟩) hHeld ?_
       ·intro w' hSw
        clear hHeld
        simp only [List.getElem_toArray, List.getElem_cons_zero, List.getElem_cons_succ]
        go_simp
       simp only [Act.put, List.getElem_toArray, List.getElem_cons_zero, List.getElem_cons_succ, List.setIfInBounds_toArray, List.set_cons_zero, List.set_cons_succ]
       refine wpAnyH_ready (rs := [22]) kW sW ?_
       refine AllReadyH.cons rfl (fun K hK => ?_) AllReadyH.nil
       simp only [List.getElem_toArray, List.getElem_cons_zero, List.getElem_cons_succ]
       obtain ⟨z, ⟨z0, z1, z2, z3⟩, ⟨f0, f1, f2, f3⟩, q5, q6⟩ := hM3.rel.slots HG.out
       go_simp
       have hM5 := hM3.put hpB HR.out
       have hz5 := hM5.rel.hcell
       rw [List.length_set] at hz5
       refine hK.out _ _ hz5 (fun _ => ?_)
       clear hK K
       refine wpAnyH_done kW ?_ _
       clear hHeld z z0 z1 z2 z3 f0 f1 f2 f3 hz5
       go_wp2_with fail
       refine ⟨⟨p + 1, oW, by go_num, ?_⟩, by simp [intOf]; omega⟩
       rw [HE2.out, HF.out]
       exact hM5
    ·obtain rfl : p = L.length := by omega
     go_wp2_with fail
     refine ⟨⟨k + 1, oW, by go_num, ?_⟩, by simp [intOf]; omega⟩
     rw [HE.out]
     exact hM
  ·obtain rfl : k = L.length := by omega
   go_wp2_with fail
   go_ret
   exact ⟨b, c, rfl, hM⟩
def Qf0 (n : Nat) (f : Nat → Bool) : List Bool := (List.range n).map f
abbrev hdr (n r : Nat) : Value := .slice (some ⟨r, 0, none⟩) n n
def upd (F : Nat → Nat → Bool) (p q : Nat) (b : Bool) : Nat → Nat → Bool := fun x y => if x = p ∧ y = q then b else F x y
theorem QGg {n q : Nat} {f : Nat → Bool} (h : q < n) : (Qap (Qf0 n f))[q]? = some (.bool (f q)) := by
 simp [Qap, Qf0, h]
theorem Qyv {n : Nat} {f g : Nat → Bool} (h : ∀ q, q < n → f q = g q) : Qf0 n f = Qf0 n g := by
 unfold Qf0
 exact List.map_congr_left fun q hq => h q (List.mem_range.1 hq)
theorem QDf {n q : Nat} {f : Nat → Bool} (b : Bool) (h : q < n) : (Qap (Qf0 n f)).setIfInBounds q (.bool b) = Qap (Qf0 n (fun y => if y = q then b else f y)) := by
 rw [Qkk]
 congr 1
 apply List.ext_getElem?
 intro i
 rw [List.getElem?_set]
 by_cases e : q = i
 ·subst e; simp [Qf0, h]
 ·rw [if_neg e]
  by_cases hi : i < n
  ·simp [Qf0, hi]
   intro h2
   exact absurd h2.symm e
  ·rw [List.getElem?_eq_none (by simp [Qf0]; omega), List.getElem?_eq_none (by simp [Qf0]; omega)]
theorem Qyw (n : Nat) : Qf0 n (fun _ => false) = List.replicate n false := by
 unfold Qf0
 apply List.ext_getElem?
 intro i
 by_cases hi : i < n
 ·simp [hi]
 ·rw [List.getElem?_eq_none (by simp; omega), List.getElem?_eq_none (by simp; omega)]
structure RefM (lo : Nat) (w : World) (M : Value) (k n : Nat) (rb : Nat → Nat) (F : Nat → Nat → Bool) : Prop where
 own : w.ownsRow lo 65 1 M k ((List.range k).map (fun p => hdr n (rb p)))
 row : ∀ p, p < k → lo ≤ rb p ∧ Blk w (rb p) 4 (Qap (Qf0 n (F p)))
 apart : ∀ p, p < k → M.ownBlock ≠ some (rb p)
 inj : ∀ p q, p < k → q < k → rb p = rb q → p = q
theorem RefM.below {lo : Nat} {w w' : World} {M : Value} {k n : Nat} {rb : Nat → Nat} {F : Nat → Nat → Bool} (h : RefM lo w M k n rb F) (hB : Below w.heap.size w w') : RefM lo w' M k n rb F := by
 refine ⟨?_, fun p hp => ⟨(h.row p hp).1, (h.row p hp).2.of_below hB⟩, h.apart, h.inj⟩
 obtain ⟨h1, h2⟩ := h.own
 refine ⟨h1, ?_⟩
 rcases h2 with h2 | ⟨g, cap, cur, e1, e2, e3, e4⟩
 ·exact .inl h2
 ·exact .inr ⟨g, cap, cur, e1, e2, (hB.block g (Array.getElem?_eq_some_iff.1 e3).1).trans e3, e4⟩
theorem RefM.below' {lo : Nat} {w w' : World} {M : Value} {k n : Nat} {rb : Nat → Nat} {F : Nat → Nat → Bool} (h : RefM lo w M k n rb F) (hk : ∀ x, lo ≤ x → x < w.heap.size → w'.heap[x]? = w.heap[x]?) : RefM lo w' M k n rb F := by
 refine ⟨?_, fun p hp => ⟨(h.row p hp).1, (hk _ (h.row p hp).1 (h.row p hp).2.lt).trans (h.row p hp).2⟩, h.apart, h.inj⟩
 obtain ⟨h1, h2⟩ := h.own
 refine ⟨h1, ?_⟩
 rcases h2 with h2 | ⟨g, cap, cur, e1, e2, e3, e4⟩
 ·exact .inl h2
 ·exact .inr ⟨g, cap, cur, e1, e2, (hk g e2 (Array.getElem?_eq_some_iff.1 e3).1).trans e3, e4⟩
theorem RefM.mono {lo lo' : Nat} {w : World} {M : Value} {k n : Nat} {rb : Nat → Nat} {F : Nat → Nat → Bool} (h : RefM lo w M k n rb F) (hl : lo' ≤ lo) : RefM lo' w M k n rb F := by
 refine ⟨?_, fun p hp => ⟨Nat.le_trans hl (h.row p hp).1, (h.row p hp).2⟩, h.apart, h.inj⟩
 obtain ⟨h1, h2⟩ := h.own
 refine ⟨h1, ?_⟩
 rcases h2 with h2 | ⟨g, cap, cur, e1, e2, e3⟩
 ·exact .inl h2
 ·exact .inr ⟨g, cap, cur, e1, Nat.le_trans hl e2, e3⟩
theorem RefM.alloc {lo : Nat} {w : World} {M : Value} {k n : Nat} {rb : Nat → Nat} {F : Nat → Nat → Bool} (h : RefM lo w M k n rb F) (o : Obj) : RefM lo (w.alloc o) M k n rb F := h.below (bW.alloc nW _)
theorem RefM.drew {lo : Nat} {w : World} {M : Value} {k n : Nat} {rb : Nat → Nat} {F : Nat → Nat → Bool} (h : RefM lo w M k n rb F) : RefM lo w.drew M k n rb F := h.below bW.drew
theorem RefM.at_ {lo : Nat} {w : World} {M : Value} {k n : Nat} {rb : Nat → Nat} {F : Nat → Nat → Bool} (h : RefM lo w M k n rb F) {p q : Nat} (hp : p < k) (hq : q < n) :
  ∃ g cap, M = .slice (some ⟨g, 0, none⟩) k cap ∧ g < w.heap.size ∧ lo ≤ g ∧ rb p ≠ g ∧ w.cell? ⟨g, p, none⟩ = some (hdr n (rb p)) ∧ w.cell? ⟨rb p, q, none⟩ = some (.bool (F p q)) ∧ w.frozen? ⟨rb p, q, none⟩ = false ∧ rb p < w.heap.size := by
 have h2 := h.apart p hp
 have h3 := (h.row p hp).2
 rcases h.own.2 with ⟨_, e⟩ | ⟨g, cap, cur, rfl, e2, e3, _, _, _, e4⟩
 ·omega
 ·refine ⟨g, cap, rfl, (Array.getElem?_eq_some_iff.1 e3).1, e2, fun e => h2 (by rw [e]; rfl), ?_, h3.cell (QGg hq), h3.frozen q, h3.lt⟩
  have hb : Blk w g 65 cur := e3
  apply hb.cell
  rw [← Array.getElem?_toList]
  have : (cur.toList.take (k * 1))[p]? = some (hdr n (rb p)) := by rw [e4]; simp [hp]
  rw [List.getElem?_take] at this
  split at this
  ·exact this
  ·cases this
theorem RefM.put {lo : Nat} {w : World} {M : Value} {k n : Nat} {rb : Nat → Nat} {F : Nat → Nat → Bool} (h : RefM lo w M k n rb F) {p q : Nat} (hp : p < k) (hq : q < n) (b : Bool) :
  RefM lo (w.setCell ⟨rb p, q, none⟩ (.bool b)) M k n rb (upd F p q b) := by
 refine ⟨?_, fun x hx => ⟨(h.row x hx).1, ?_⟩, h.apart, h.inj⟩
 ·obtain ⟨h1, h2⟩ := h.own
  refine ⟨h1, ?_⟩
  rcases h2 with h2 | ⟨g, cap, cur, e1, e2, e3, e4⟩
  ·exact .inl h2
  ·have hg : g ≠ rb p := fun e => h.apart p hp (by rw [e1, ← e]; rfl)
   exact .inr ⟨g, cap, cur, e1, e2, (Below.heap_setCell w ⟨rb p, q, none⟩ (.bool b) g hg).trans e3, e4⟩
 ·by_cases e : x = p
  ·subst e
   have := (h.row x hx).2.set q (.bool b)
   rw [QDf b hq] at this
   have e2 : (fun y => if y = q then b else F x y) = upd F x q b x := by
    funext y
    unfold upd
    simp
   rwa [e2] at this
  ·have e2 : upd F p q b x = F x := by
    funext y
    unfold upd
    simp [e]
   rw [e2]
   exact (h.row x hx).2.setOther (fun h2 => e (h.inj x p hx hp h2)) _
theorem RefM.slice {lo : Nat} {w : World} {M : Value} {k n : Nat} {rb : Nat → Nat} {F : Nat → Nat → Bool} (h : RefM lo w M k n rb F) : ∃ x y z, M = .slice x y z := by
 rcases h.own.2 with ⟨e, _⟩ | ⟨g, cap, cur, e, _⟩
 ·exact ⟨_, _, _, e⟩
 ·exact ⟨_, _, _, e⟩
theorem RefM.congr {lo : Nat} {w : World} {M : Value} {k n : Nat} {rb : Nat → Nat} {F G : Nat → Nat → Bool} (h : RefM lo w M k n rb F) (hfg : ∀ p q, p < k → q < n → F p q = G p q) : RefM lo w M k n rb G :=
 ⟨h.own, fun p hp => ⟨(h.row p hp).1, by rw [← Qyv (fun q hq => hfg p q hp hq)]; exact (h.row p hp).2⟩, h.apart, h.inj⟩
theorem RefM.nil (lo : Nat) (w : World) (n : Nat) (rb : Nat → Nat) (F : Nat → Nat → Bool) : RefM lo w (.slice none 0 0) 0 n rb F :=
 ⟨World.ownsRow_nil _ _ _ _, fun p hp => by omega, fun p hp => by omega, fun p q hp => by omega⟩
theorem RefM.more {lo : Nat} {w w' : World} {M M' : Value} {k n r : Nat} {rb : Nat → Nat} {F : Nat → Nat → Bool} (h : RefM lo w M k n rb F) (hr : Blk w r 4 (Qap (Qf0 n (F k)))) (hlo : lo ≤ r) (hnew : ∀ p, p < k → rb p ≠ r) (hM : M.ownBlock ≠ some r)
  (hown : w'.ownsRow lo 65 1 M' (k + 1) ((List.range k).map (fun p => hdr n (rb p)) ++ [hdr n r])) (hg : w.grownBy w' M.ownBlock) (hat : M'.ownBlock = M.ownBlock ∨ ∃ g, M'.ownBlock = some g ∧ w.heap.size ≤ g) :
  RefM lo w' M' (k + 1) n (fun p => if p = k then r else rb p) F := by
 have hkeep : ∀ (x : Nat) (cs : Array Value), Blk w x 4 cs → M.ownBlock ≠ some x → Blk w' x 4 cs := fun x cs hb hx => (hg.block x hb.lt (fun e => hx e.symm)).trans hb
 refine ⟨?_, ?_, ?_, ?_⟩
 ·have e : (List.range (k + 1)).map (fun p => hdr n (if p = k then r else rb p)) = (List.range k).map (fun p => hdr n (rb p)) ++ [hdr n r] := by
   rw [List.range_succ, List.map_append]
   congr 1
   ·apply List.map_congr_left
    intro p hp
    have := List.mem_range.1 hp
    rw [if_neg oW]
   ·simp
  rw [e]
  exact hown
 ·intro p hp
  by_cases e : p = k
  ·subst e
   rw [if_pos rfl]
   exact ⟨hlo, hkeep r _ hr hM⟩
  ·rw [if_neg e]
   exact ⟨(h.row p oW).1, hkeep _ _ (h.row p oW).2 (h.apart p oW)⟩
 ·intro p hp
  have hb : M.ownBlock ≠ some (if p = k then r else rb p) ∧ (if p = k then r else rb p) < w.heap.size := by
   by_cases e : p = k
   ·rw [if_pos e]; exact ⟨hM, hr.lt⟩
   ·rw [if_neg e]; exact ⟨h.apart p oW, (h.row p oW).2.lt⟩
  rcases hat with hat | ⟨g, e1, e2⟩
  ·rw [hat]; exact hb.1
  ·rw [e1]
   intro e
   have := Option.some.inj e
   omega
 ·intro p q hp hq he
  by_cases e1 : p = k <;> by_cases e2 : q = k
  ·omega
  ·rw [if_pos e1, if_neg e2] at he
   exact absurd he.symm (hnew q oW)
  ·rw [if_neg e1, if_pos e2] at he
   exact absurd he (hnew p oW)
  ·rw [if_neg e1, if_neg e2] at he
   exact h.inj p q oW oW he
theorem Qnv {P : Program} {ops : Array Oper} {md : Region.Mode} {Q : Exit → Act → World → Prop} {i : Nat} {o : Oper} {d : Option Tmp} {fuel : Nat} {listed : Array Bool} {a : Act} {w w' : World} {rs : List Nat} (ho : ops[i]? = some o) (hd : o.dst = d)
  (hw : Region.wanted o (yielded ops a.tmps) = true) (hrun : (execOp a.eval o).run P w = .ok .skip w')
  (h : wpAnyH P md ops Q (fun _ => True) fuel (listed.setIfInBounds i true) (a.put d undef) w') (hs : AllReadyH P md ops Q (fun _ => True) fuel listed a w rs) :
  AllReadyH P md ops Q (fun _ => True) fuel listed a w (i :: rs) := by
 subst hd
 refine AllReadyH.cons ho (fun K hK => ?_) hs
 rw [if_pos hw]
 unfold Oper.wp
 rw [hrun]
 exact hK.out _ _ trivial (fun _ => h)
theorem Qbr {fn : Func} {p : Tmp} {tmps : Array Value} {w : World} {g : Nat} {N M : Value} (h : fn.results = #[.cell p 51]) (hp : tmps.getD p undef = .pointer (some ⟨g, 0, none⟩)) (hb : Blk w g 51 #[N, M]) :
  (results fn tmps).run Tryz.prog w = .ok (.agg #[N, M]) w :=
 results_cell_row h tmps w g _ _ (0, 0) _ hp hb Tryz.underlying51 rfl kW
theorem Qdh {a : Act} {ρ : Operand → Value} (h : Act.eval a = ρ) : (∀ v, ρ (.const v) = v) ∧ ∀ f, ρ (.func f) = .func (.func f) #[] #[] := ⟨fun _ => by rw [← h]; rfl, fun _ => by rw [← h]; rfl⟩
theorem Tryz.infobools : (Tryz.prog.info? 65).map (fun i => (i.zero, i.size, i.bytes)) = some (some (.slice none 0 0), 1, 24) := by kernel_rfl
structure RefMid (w W : World) (M : Value) (k n : Nat) (rb : Nat → Nat) : Prop where
 below : Below w.heap.size w W
 res : Blk W w.heap.size 51 #[.int .i64 0, .slice none 0 0]
 box : Blk W (w.heap.size + 1) 51 #[.int .i64 ((n : Nat) : Int), M]
 ref : RefM (w.heap.size + 2) W M k n rb (fun _ _ => false)
theorem RefMid.kept {w W W' : World} {M : Value} {k n : Nat} {rb : Nat → Nat} (h : RefMid w W M k n rb)
  (hg : ((W.drew.alloc (.cells (Qap (List.replicate n false)) 4)).alloc (.cells #[hdr n W.heap.size] 65)).grownBy W' M.ownBlock) : Blk W' (w.heap.size + 1) 51 #[.int .i64 ((n : Nat) : Int), M] :=
 (hg.block _ (by have := h.box.lt; simp; omega) (fun e => by have := (h.ref.own.lt _ e.symm).1; omega)).trans ((h.box.drew.alloc _).alloc _)
theorem RefMid.next {w W W' : World} {M M' : Value} {k n : Nat} {rb : Nat → Nat} (h : RefMid w W M k n rb)
  (hown : W'.ownsRow (w.heap.size + 2) 65 1 M' (k + 1) ((List.range k).map (fun p => hdr n (rb p)) ++ [hdr n W.heap.size]))
  (hg : ((W.drew.alloc (.cells (Qap (List.replicate n false)) 4)).alloc (.cells #[hdr n W.heap.size] 65)).grownBy W' M.ownBlock)
  (hat : M'.ownBlock = M.ownBlock ∨ M'.ownBlock = some ((W.drew.alloc (.cells (Qap (List.replicate n false)) 4)).alloc (.cells #[hdr n W.heap.size] 65)).heap.size) :
  RefMid w (W'.setCell ⟨w.heap.size + 1, 1, none⟩ M') M' (k + 1) n (fun p => if p = k then W.heap.size else rb p) := by
 have hx := h.box.lt
 have hge : ∀ g, M.ownBlock = some g → w.heap.size + 2 ≤ g := fun g e => (h.ref.own.lt g e).1
 have hlt : ∀ g, M.ownBlock = some g → g < W.heap.size := fun g e => (h.ref.own.lt g e).2
 have hB : Below w.heap.size w W' := ((h.below.drew.alloc (by have := h.below.size; simpa using this) _).alloc (by simp; omega) _).grown hg (by simp; omega) (fun g e => by have := hge g e; omega)
 have keep : ∀ (x : Nat) (t : TypeId) (cs : Array Value), Blk W x t cs → x < w.heap.size + 2 → Blk W' x t cs := fun x t cs hb hx2 =>
  (hg.block x (by have := hb.lt; simp; omega) (fun e => by have := hge x e.symm; omega)).trans ((hb.drew.alloc _).alloc _)
 have hR : RefM (w.heap.size + 2) W' M' (k + 1) n (fun p => if p = k then W.heap.size else rb p) (fun _ _ => false) := by
  refine ((h.ref.drew.alloc _).alloc _).more ?_ oW ?_ ?_ hown hg ?_
  ·rw [Qyw]
   exact (Blk.new W.drew _ _).alloc _
  ·intro p hp e
   have := (h.ref.row p hp).2.lt
   omega
  ·intro e
   have := hlt _ e
   omega
  ·rcases hat with hat | hat
   ·exact .inl hat
   ·exact .inr ⟨_, hat, Nat.le_refl _⟩
 refine ⟨hB.setCell sW _, (keep _ _ _ h.res oW).setOther sW _, ?_, ?_⟩
 ·have := (keep _ _ _ h.box oW).set 1 M'
  simpa using this
 ·exact hR.below' fun x hx _ => Below.heap_setCell W' ⟨w.heap.size + 1, 1, none⟩ M' x (by simp; omega)
theorem Qd (N : Nat) (hN : N ≤ 256) (w : World) :
  Calls Tryz.prog 101 #[.int .i64 ((N : Nat) : Int)] w fun e w' => ∃ M rb, e = .returned (.agg #[.int .i64 ((N : Nat) : Int), M]) ∧ RefM w.heap.size w' M N N rb (fun _ _ => false) ∧ Below w.heap.size w w' := by
 obtain ⟨i0, hi, hz0, hz1, hz2⟩ := info_parts Tryz.infobools
 go_enter Tryz.func101, Tryz.ntmps101
 go_wp2_with fail
 go_loopw [4] (fun i wr => ∃ k M rb, k ≤ N ∧ i = .int .i64 ((k : Nat) : Int) ∧ RefMid w wr M k N rb) (fun i _ => N - (intOf i).toNat)
 case atStart =>
  refine ⟨0, .slice none 0 0, fun _ => 0, oW, rfl, ?_, ?_, ?_, RefM.nil _ _ _ _ _⟩
  ·exact ((Below.refl _ w).alloc nW _).alloc sW _
  ·exact (Blk.new w _ _).alloc _
  ·skip
   exact Blk.new2 w _ _ _
 case round =>
  obtain ⟨k, M, rb, hk, rfl, hR⟩ := hrel
  by_cases hlt : k < N
  ·have cM := hR.box.cell (j := 1) rfl
   have cM1 := (hR.box.alloc (.cells (Qap (List.replicate N false)) 4)).cell (j := 1) rfl
   have cM3 := ((hR.box.alloc (.cells (Qap (List.replicate N false)) 4)).alloc (.cells #[hdr N wr.heap.size] 65)).cell (j := 1) rfl
   have hmk := Qkl N oW
   go_wp2_with fail
   generalize hA : Act.mk _ _ = a0
   have hsz : a0.tmps.size = 24 := by rw [← hA]; rfl
   have b0 : Act.eval a0 (.tmp 0) = .int .i64 (N : Int) := by rw [← hA]; rfl
   have b3 : Act.eval a0 (.tmp 3) = pv (w.heap.size + 1) := by rw [← hA]; rfl
   refine wp_region_held_drew (S := fun _ => True) kW trivial (fun _ => ?_)
   refine Qh8 (i := 0) (d := some 16) (v := .pointer (some ⟨w.heap.size + 1, 1, none⟩)) rfl rfl kW kW kW (fun _ _ _ h => h) (by rfl) ?_ ?_
   ·intro w9
    have e3 := b3
    have ec : ∀ v, Act.eval a0 (.const v) = v := fun _ => rfl
    have ef : ∀ f, Act.eval a0 (.func f) = .func (.func f) #[] #[] := fun _ => rfl
    generalize Act.eval a0 = ρ at *
    simp only [List.getElem_toArray, List.getElem_cons_zero]
    go_simp
   refine Qh8 (i := 2) (d := some 18) (v := .int .i64 ((N : Nat) : Int)) rfl rfl kW kW kW (fun _ _ _ h => h) (by rfl) ?_ ?_
   ·intro w9
    generalize hρ : Act.eval _ = ρ
    have e0 : ρ (.tmp 0) = .int .i64 (N : Int) := by rw [← hρ, Act.eval_put_ne _ _ _ _ dW, b0]
    obtain ⟨ec, ef⟩ := Qdh hρ
    clear hρ
    simp only [zw]
    go_simp
   refine wpAnyH_ready (rs := [1, 3]) kW sW ?_
   refine Qcw (i := 1) (d := some 17) (v := M) (w' := wr.drew) rfl rfl (by rfl) ?_ ?_ ?_
   ·skip
    generalize hρ : Act.eval _ = ρ
    have e16 : ρ (.tmp 16) = .pointer (some ⟨w.heap.size + 1, 1, none⟩) := by rw [← hρ, Act.eval_put_ne _ _ _ _ dW, Act.eval_put_same _ _ _ (by (repeat rw [Act.size_put]); omega)]
    obtain ⟨ec, ef⟩ := Qdh hρ
    clear hρ
    simp only [zw]
    go_simp
   ·skip
    refine wpAnyH_ready (rs := [3]) kW sW ?_
    refine Qcw (i := 3) (d := some 19) (v := hdr N wr.heap.size) (w' := (wr.drew.alloc (.cells (Qap (List.replicate N false)) 4))) rfl rfl (by rfl) ?_ ?_ AllReadyH.nil
    ·skip
     generalize hρ : Act.eval _ = ρ
     have e18 : ρ (.tmp 18) = .int .i64 (N : Int) := by rw [← hρ, Act.eval_put_ne _ _ _ _ dW, Act.eval_put_same _ _ _ (by (repeat rw [Act.size_put]); omega)]
     obtain ⟨ec, ef⟩ := Qdh hρ
     clear hρ
     simp only [zw]
     go_simp
    refine wpAnyH_ready (rs := [4]) kW sW ?_
    refine Qcw (i := 4) (d := some 20) (v := .slice (some ⟨wr.heap.size + 1, 0, none⟩) 1 1) (w' := ((wr.drew.alloc (.cells (Qap (List.replicate N false)) 4)).alloc (.cells #[hdr N wr.heap.size] 65))) rfl rfl (by rfl) ?_ ?_ AllReadyH.nil
    ·skip
     generalize hρ : Act.eval _ = ρ
     have e19 : ρ (.tmp 19) = hdr N wr.heap.size := by rw [← hρ, Act.eval_put_same _ _ _ (by (repeat rw [Act.size_put]); omega)]
     obtain ⟨ec, ef⟩ := Qdh hρ
     clear hρ
     simp only [zw]
     go_simp
    refine wpAnyH_ready (rs := [5]) kW sW ?_
    obtain ⟨M2, w2, hr, hown, hg, _, hat⟩ := run_append_own_at (P := Tryz.prog) ((wr.drew.alloc (.cells (Qap (List.replicate N false)) 4)).alloc (.cells #[hdr N wr.heap.size] 65)) (w.heap.size + 2) 49 49 65 i0 (.slice none 0 0) 1 24 Tryz.underlying49 hi hz0 hz1 hz2 rfl dW M k _ ((hR.ref.drew.alloc _).alloc _).own ⟨wr.heap.size + 1, 0, none⟩ 1 1 [hdr N wr.heap.size] rfl (by have := cell_one_new (wr.drew.alloc (.cells (Qap (List.replicate N false)) 4)) (hdr N wr.heap.size) 65; simpa using this) (by simp [Value.oneCell']) (by unfold maxLen; omega) oW (by have := hR.below.size; have := hR.box.lt; simp; omega)
    obtain ⟨g2, cap2, rfl⟩ := ownsRow_succ hown
    refine Qcw (i := 5) (d := some 21) (v := .slice (some ⟨g2, 0, none⟩) (k + 1) cap2) (w' := w2) rfl rfl (by rfl) ?_ ?_ AllReadyH.nil
    ·skip
     generalize hρ : Act.eval _ = ρ
     have e17 : ρ (.tmp 17) = M := by rw [← hρ, Act.eval_put_ne _ _ _ _ dW, Act.eval_put_ne _ _ _ _ dW, Act.eval_put_same _ _ _ (by (repeat rw [Act.size_put]); omega)]
     have e20 : ρ (.tmp 20) = .slice (some ⟨wr.heap.size + 1, 0, none⟩) 1 1 := by rw [← hρ, Act.eval_put_same _ _ _ (by (repeat rw [Act.size_put]); omega)]
     obtain ⟨ec, ef⟩ := Qdh hρ
     clear hρ
     simp only [zw]
     unfold execOp
     simp only [resolve, invoke, builtin, Sem.run_bind, Sem.run_pure, Result.andThen_ok, List.map_toArray, List.map_cons, List.map_nil, e17, e20, hr]
     done
    have hR2 := hR.next hown hg hat
    have hb2 := hR.kept hg
    have cM2 := hb2.cell (j := 1) rfl
    have fz2 := hb2.frozen 1
    refine Qh8 (i := 6) (d := some 22) (v := .pointer (some ⟨w.heap.size + 1, 1, none⟩)) rfl rfl kW kW kW (fun _ _ _ h => h) (by rfl) ?_ ?_
    ·intro w9
     generalize hρ : Act.eval _ = ρ
     have e3 : ρ (.tmp 3) = pv (w.heap.size + 1) := by rw [← hρ, Act.eval_put_ne _ _ _ _ dW, Act.eval_put_ne _ _ _ _ dW, Act.eval_put_ne _ _ _ _ dW, Act.eval_put_ne _ _ _ _ dW, Act.eval_put_ne _ _ _ _ dW, Act.eval_put_ne _ _ _ _ dW, b3]
     obtain ⟨ec, ef⟩ := Qdh hρ
     clear hρ
     simp only [zw]
     go_simp
    refine wpAnyH_ready (rs := [7]) kW sW ?_
    refine Qnv (i := 7) (d := none) (w' := w2.setCell ⟨w.heap.size + 1, 1, none⟩ (.slice (some ⟨g2, 0, none⟩) (k + 1) cap2)) rfl rfl (by rfl) ?_ ?_ AllReadyH.nil
    ·skip
     generalize hρ : Act.eval _ = ρ
     have e21 : ρ (.tmp 21) = .slice (some ⟨g2, 0, none⟩) (k + 1) cap2 := by rw [← hρ, Act.eval_put_ne _ _ _ _ dW, Act.eval_put_same _ _ _ (by (repeat rw [Act.size_put]); omega)]
     have e22 : ρ (.tmp 22) = .pointer (some ⟨w.heap.size + 1, 1, none⟩) := by rw [← hρ, Act.eval_put_same _ _ _ (by (repeat rw [Act.size_put]); omega)]
     obtain ⟨ec, ef⟩ := Qdh hρ
     clear hρ
     simp only [zw]
     go_simp
    refine wpAnyH_done kW ?_ _
    subst hA
    simp only [Act.put, List.setIfInBounds_toArray, List.set_cons_zero, List.set_cons_succ]
    go_wp2_with fail
    refine ⟨⟨k + 1, _, _, oW, by go_num, hR2⟩, by simp [intOf]; omega⟩
   refine Qcw (i := 3) (d := some 19) (v := hdr N wr.heap.size) (w' := (wr.drew.alloc (.cells (Qap (List.replicate N false)) 4))) rfl rfl (by rfl) ?_ ?_ AllReadyH.nil
   ·skip
    generalize hρ : Act.eval _ = ρ
    have e18 : ρ (.tmp 18) = .int .i64 (N : Int) := by rw [← hρ, Act.eval_put_same _ _ _ (by (repeat rw [Act.size_put]); omega)]
    obtain ⟨ec, ef⟩ := Qdh hρ
    clear hρ
    simp only [zw]
    go_simp
   refine wpAnyH_ready (rs := [1, 4]) kW sW ?_
   refine Qcw (i := 1) (d := some 17) (v := M) (w' := (wr.drew.alloc (.cells (Qap (List.replicate N false)) 4))) rfl rfl (by rfl) ?_ ?_ ?_
   ·skip
    generalize hρ : Act.eval _ = ρ
    have e16 : ρ (.tmp 16) = .pointer (some ⟨w.heap.size + 1, 1, none⟩) := by rw [← hρ, Act.eval_put_ne _ _ _ _ dW, Act.eval_put_ne _ _ _ _ dW, Act.eval_put_same _ _ _ (by (repeat rw [Act.size_put]); omega)]
    obtain ⟨ec, ef⟩ := Qdh hρ
    clear hρ
    simp only [zw]
    go_simp
   ·skip
    refine wpAnyH_ready (rs := [4]) kW sW ?_
    refine Qcw (i := 4) (d := some 20) (v := .slice (some ⟨wr.heap.size + 1, 0, none⟩) 1 1) (w' := ((wr.drew.alloc (.cells (Qap (List.replicate N false)) 4)).alloc (.cells #[hdr N wr.heap.size] 65))) rfl rfl (by rfl) ?_ ?_ AllReadyH.nil
    ·skip
     generalize hρ : Act.eval _ = ρ
     have e19 : ρ (.tmp 19) = hdr N wr.heap.size := by rw [← hρ, Act.eval_put_ne _ _ _ _ dW, Act.eval_put_same _ _ _ (by (repeat rw [Act.size_put]); omega)]
     obtain ⟨ec, ef⟩ := Qdh hρ
     clear hρ
     simp only [zw]
     go_simp
    refine wpAnyH_ready (rs := [5]) kW sW ?_
    obtain ⟨M2, w2, hr, hown, hg, _, hat⟩ := run_append_own_at (P := Tryz.prog) ((wr.drew.alloc (.cells (Qap (List.replicate N false)) 4)).alloc (.cells #[hdr N wr.heap.size] 65)) (w.heap.size + 2) 49 49 65 i0 (.slice none 0 0) 1 24 Tryz.underlying49 hi hz0 hz1 hz2 rfl dW M k _ ((hR.ref.drew.alloc _).alloc _).own ⟨wr.heap.size + 1, 0, none⟩ 1 1 [hdr N wr.heap.size] rfl (by have := cell_one_new (wr.drew.alloc (.cells (Qap (List.replicate N false)) 4)) (hdr N wr.heap.size) 65; simpa using this) (by simp [Value.oneCell']) (by unfold maxLen; omega) oW (by have := hR.below.size; have := hR.box.lt; simp; omega)
    obtain ⟨g2, cap2, rfl⟩ := ownsRow_succ hown
    refine Qcw (i := 5) (d := some 21) (v := .slice (some ⟨g2, 0, none⟩) (k + 1) cap2) (w' := w2) rfl rfl (by rfl) ?_ ?_ AllReadyH.nil
    ·skip
     generalize hρ : Act.eval _ = ρ
     have e17 : ρ (.tmp 17) = M := by rw [← hρ, Act.eval_put_ne _ _ _ _ dW, Act.eval_put_same _ _ _ (by (repeat rw [Act.size_put]); omega)]
     have e20 : ρ (.tmp 20) = .slice (some ⟨wr.heap.size + 1, 0, none⟩) 1 1 := by rw [← hρ, Act.eval_put_same _ _ _ (by (repeat rw [Act.size_put]); omega)]
     obtain ⟨ec, ef⟩ := Qdh hρ
     clear hρ
     simp only [zw]
     unfold execOp
     simp only [resolve, invoke, builtin, Sem.run_bind, Sem.run_pure, Result.andThen_ok, List.map_toArray, List.map_cons, List.map_nil, e17, e20, hr]
     done
    have hR2 := hR.next hown hg hat
    have hb2 := hR.kept hg
    have cM2 := hb2.cell (j := 1) rfl
    have fz2 := hb2.frozen 1
    refine Qh8 (i := 6) (d := some 22) (v := .pointer (some ⟨w.heap.size + 1, 1, none⟩)) rfl rfl kW kW kW (fun _ _ _ h => h) (by rfl) ?_ ?_
    ·intro w9
     generalize hρ : Act.eval _ = ρ
     have e3 : ρ (.tmp 3) = pv (w.heap.size + 1) := by rw [← hρ, Act.eval_put_ne _ _ _ _ dW, Act.eval_put_ne _ _ _ _ dW, Act.eval_put_ne _ _ _ _ dW, Act.eval_put_ne _ _ _ _ dW, Act.eval_put_ne _ _ _ _ dW, Act.eval_put_ne _ _ _ _ dW, b3]
     obtain ⟨ec, ef⟩ := Qdh hρ
     clear hρ
     simp only [zw]
     go_simp
    refine wpAnyH_ready (rs := [7]) kW sW ?_
    refine Qnv (i := 7) (d := none) (w' := w2.setCell ⟨w.heap.size + 1, 1, none⟩ (.slice (some ⟨g2, 0, none⟩) (k + 1) cap2)) rfl rfl (by rfl) ?_ ?_ AllReadyH.nil
    ·skip
     generalize hρ : Act.eval _ = ρ
     have e21 : ρ (.tmp 21) = .slice (some ⟨g2, 0, none⟩) (k + 1) cap2 := by rw [← hρ, Act.eval_put_ne _ _ _ _ dW, Act.eval_put_same _ _ _ (by (repeat rw [Act.size_put]); omega)]
     have e22 : ρ (.tmp 22) = .pointer (some ⟨w.heap.size + 1, 1, none⟩) := by rw [← hρ, Act.eval_put_same _ _ _ (by (repeat rw [Act.size_put]); omega)]
     obtain ⟨ec, ef⟩ := Qdh hρ
     clear hρ
     simp only [zw]
     go_simp
    refine wpAnyH_done kW ?_ _
    subst hA
    simp only [Act.put, List.setIfInBounds_toArray, List.set_cons_zero, List.set_cons_succ]
    go_wp2_with fail
    refine ⟨⟨k + 1, _, _, oW, by go_num, hR2⟩, by simp [intOf]; omega⟩
   refine Qcw (i := 4) (d := some 20) (v := .slice (some ⟨wr.heap.size + 1, 0, none⟩) 1 1) (w' := ((wr.drew.alloc (.cells (Qap (List.replicate N false)) 4)).alloc (.cells #[hdr N wr.heap.size] 65))) rfl rfl (by rfl) ?_ ?_ AllReadyH.nil
   ·skip
    generalize hρ : Act.eval _ = ρ
    have e19 : ρ (.tmp 19) = hdr N wr.heap.size := by rw [← hρ, Act.eval_put_same _ _ _ (by (repeat rw [Act.size_put]); omega)]
    obtain ⟨ec, ef⟩ := Qdh hρ
    clear hρ
    simp only [zw]
    go_simp
   refine wpAnyH_ready (rs := [1]) kW sW ?_
   refine Qcw (i := 1) (d := some 17) (v := M) (w' := ((wr.drew.alloc (.cells (Qap (List.replicate N false)) 4)).alloc (.cells #[hdr N wr.heap.size] 65))) rfl rfl (by rfl) ?_ ?_ AllReadyH.nil
   ·skip
    generalize hρ : Act.eval _ = ρ
    have e16 : ρ (.tmp 16) = .pointer (some ⟨w.heap.size + 1, 1, none⟩) := by rw [← hρ, Act.eval_put_ne _ _ _ _ dW, Act.eval_put_ne _ _ _ _ dW, Act.eval_put_ne _ _ _ _ dW, Act.eval_put_same _ _ _ (by (repeat rw [Act.size_put]); omega)]
    obtain ⟨ec, ef⟩ := Qdh hρ
    clear hρ
    simp only [zw]
    go_simp
   refine wpAnyH_ready (rs := [5]) kW sW ?_
   obtain ⟨M2, w2, hr, hown, hg, _, hat⟩ := run_append_own_at (P := Tryz.prog) ((wr.drew.alloc (.cells (Qap (List.replicate N false)) 4)).alloc (.cells #[hdr N wr.heap.size] 65)) (w.heap.size + 2) 49 49 65 i0 (.slice none 0 0) 1 24 Tryz.underlying49 hi hz0 hz1 hz2 rfl dW M k _ ((hR.ref.drew.alloc _).alloc _).own ⟨wr.heap.size + 1, 0, none⟩ 1 1 [hdr N wr.heap.size] rfl (by have := cell_one_new (wr.drew.alloc (.cells (Qap (List.replicate N false)) 4)) (hdr N wr.heap.size) 65; simpa using this) (by simp [Value.oneCell']) (by unfold maxLen; omega) oW (by have := hR.below.size; have := hR.box.lt; simp; omega)
   obtain ⟨g2, cap2, rfl⟩ := ownsRow_succ hown
   refine Qcw (i := 5) (d := some 21) (v := .slice (some ⟨g2, 0, none⟩) (k + 1) cap2) (w' := w2) rfl rfl (by rfl) ?_ ?_ AllReadyH.nil
   ·skip
    generalize hρ : Act.eval _ = ρ
    have e17 : ρ (.tmp 17) = M := by rw [← hρ, Act.eval_put_same _ _ _ (by (repeat rw [Act.size_put]); omega)]
    have e20 : ρ (.tmp 20) = .slice (some ⟨wr.heap.size + 1, 0, none⟩) 1 1 := by rw [← hρ, Act.eval_put_ne _ _ _ _ dW, Act.eval_put_same _ _ _ (by (repeat rw [Act.size_put]); omega)]
    obtain ⟨ec, ef⟩ := Qdh hρ
    clear hρ
    simp only [zw]
    unfold execOp
    simp only [resolve, invoke, builtin, Sem.run_bind, Sem.run_pure, Result.andThen_ok, List.map_toArray, List.map_cons, List.map_nil, e17, e20, hr]
    done
   have hR2 := hR.next hown hg hat
   have hb2 := hR.kept hg
   have cM2 := hb2.cell (j := 1) rfl
   have fz2 := hb2.frozen 1
   refine Qh8 (i := 6) (d := some 22) (v := .pointer (some ⟨w.heap.size + 1, 1, none⟩)) rfl rfl kW kW kW (fun _ _ _ h => h) (by rfl) ?_ ?_
   ·intro w9
    generalize hρ : Act.eval _ = ρ
    have e3 : ρ (.tmp 3) = pv (w.heap.size + 1) := by rw [← hρ, Act.eval_put_ne _ _ _ _ dW, Act.eval_put_ne _ _ _ _ dW, Act.eval_put_ne _ _ _ _ dW, Act.eval_put_ne _ _ _ _ dW, Act.eval_put_ne _ _ _ _ dW, Act.eval_put_ne _ _ _ _ dW, b3]
    obtain ⟨ec, ef⟩ := Qdh hρ
    clear hρ
    simp only [zw]
    go_simp
   refine wpAnyH_ready (rs := [7]) kW sW ?_
   refine Qnv (i := 7) (d := none) (w' := w2.setCell ⟨w.heap.size + 1, 1, none⟩ (.slice (some ⟨g2, 0, none⟩) (k + 1) cap2)) rfl rfl (by rfl) ?_ ?_ AllReadyH.nil
   ·skip
    generalize hρ : Act.eval _ = ρ
    have e21 : ρ (.tmp 21) = .slice (some ⟨g2, 0, none⟩) (k + 1) cap2 := by rw [← hρ, Act.eval_put_ne _ _ _ _ dW, Act.eval_put_same _ _ _ (by (repeat rw [Act.size_put]); omega)]
    have e22 : ρ (.tmp 22) = .pointer (some ⟨w.heap.size + 1, 1, none⟩) := by rw [← hρ, Act.eval_put_same _ _ _ (by (repeat rw [Act.size_put]); omega)]
    obtain ⟨ec, ef⟩ := Qdh hρ
    clear hρ
    simp only [zw]
    go_simp
   refine wpAnyH_done kW ?_ _
   subst hA
   simp only [Act.put, List.setIfInBounds_toArray, List.set_cons_zero, List.set_cons_succ]
   go_wp2_with fail
   refine ⟨⟨k + 1, _, _, oW, by go_num, hR2⟩, by simp [intOf]; omega⟩
  ·have e : N = k := by omega
   subst e
   have c0 := hR.box.cell (j := 0) rfl
   have c1 := hR.box.cell (j := 1) rfl
   have d0 := hR.res.cell (j := 0) rfl
   have d1 := hR.res.cell (j := 1) rfl
   have f0 := hR.res.frozen 0
   have f1 := hR.res.frozen 1
   have hM1 : ∃ x y z, M = .slice x y z := by
    rcases hR.ref.own.2 with ⟨e, _⟩ | ⟨g, cap, cur, e, _⟩
    ·exact ⟨_, _, _, e⟩
    ·exact ⟨_, _, _, e⟩
   obtain ⟨x, y, z, rfl⟩ := hM1
   go_wp2_with fail
   have hres := (hR.res.set 0 (.int .i64 (N : Int))).set 1 (.slice x y z)
   simp only [List.setIfInBounds_toArray, List.set_cons_zero, List.set_cons_succ] at hres
   (try simp only [Exit.inBlock, Exit.then])
   refine bodyPost_ret (Qbr rfl rfl hres) rfl ?_
   have hA1 : RefM w.heap.size ((wr.setCell ⟨w.heap.size, 0, none⟩ (.int .i64 ((N : Nat) : Int))).setCell ⟨w.heap.size, 1, none⟩ (.slice x y z)) (.slice x y z) N N rb (fun _ _ => false) := RefM.mono (hR.ref.below' fun g hg _ => by rw [Below.heap_setCell _ _ _ _ (by simp; omega), Below.heap_setCell _ _ _ _ (by simp; omega)]) oW
   have hB1 := (hR.below.setCell (p := ⟨w.heap.size, 0, none⟩) nW (.int .i64 (N : Int))).setCell (p := ⟨w.heap.size, 1, none⟩) nW (.slice x y z)
   first | exact ⟨_, rb, rfl, hA1, hB1⟩ | exact ⟨_, rfl, ⟨rb, hA1⟩, hB1⟩
theorem Qie (n : Int) (h0 : 0 ≤ n) (h9 : n ≤ 256) (w : World) :
  Calls Tryz.prog 101 #[.int .i64 n] w fun e w' => ∃ M rb, e = .returned (.agg #[.int .i64 ((Qau n : Nat) : Int), M]) ∧ RefM w.heap.size w' M (Qau n) (Qau n) rb (fun _ _ => false) ∧ Below w.heap.size w w' := by
 obtain ⟨N, rfl⟩ : ∃ N : Nat, n = ((N : Nat) : Int) := ⟨n.toNat, oW⟩
 have e : Qau (N : Int) = N := by unfold Qau; omega
 rw [e]
 exact Qd N oW w
abbrev g8 (g : Gr) (p1 : Option Addr) (k1 : Nat) (p2 : Option Addr) (k2 : Nat) (p3 : Option Addr) (k3 : Nat) (p4 : Option Addr) (k4 : Nat) (p5 : Option Addr) (k5 : Nat) (p6 : Option Addr) (k6 : Nat) (p7 : Option Addr) (k7 : Nat) : Array Value := #[.int .i64 g.cells, .slice p1 g.evs.length k1, .slice p2 g.rf.length k2, .slice p3 g.co.length k3, .slice p4 g.rmw.length k4, .slice p5 g.addr.length k5, .slice p6 g.dat.length k6, .slice p7 g.ctrl.length k7]
end Go.Proofs.YtdkogbfamdnheaaGreatDoor
