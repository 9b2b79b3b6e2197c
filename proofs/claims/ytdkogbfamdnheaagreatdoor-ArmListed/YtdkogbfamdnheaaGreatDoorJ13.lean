import Derived.Test.YtdkogbfamdnheaaGreatDoorJ10
import Derived.Test.YtdkogbfamdnheaaGreatDoorTk
namespace Go.Proofs.YtdkogbfamdnheaaGreatDoor
open Go.RowKit Go.Shelf Sx
set_option maxRecDepth 100000
set_option maxHeartbeats 16000000
set_option linter.unusedSimpArgs false
set_option linter.unusedVariables false
structure Ev where
 t : Int
 k : Int
 l : Int
 v : Int
 m : Int
def Ev.dec (a b : Ev) : Decidable (a = b) :=
 decidable_of_iff (a.t = b.t ∧ a.k = b.k ∧ a.l = b.l ∧ a.v = b.v ∧ a.m = b.m) ⟨fun h => by obtain ⟨x1, x2, x3, x4, x5⟩ := a; obtain ⟨y1, y2, y3, y4, y5⟩ := b; obtain ⟨h1, h2, h3, h4, h5⟩ := h; dsimp only at h1 h2 h3 h4 h5; subst h1 h2 h3 h4 h5; rfl, fun h => by subst h; exact ⟨rfl, rfl, rfl, rfl, rfl⟩⟩
def Ev.ndec (a b : Ev) : Decidable (a ≠ b) := @instDecidableNot _ (Ev.dec a b)
theorem Ev.ndec_false {a b : Ev} (h : @decide (a ≠ b) (Ev.ndec a b) = false) : a = b := Classical.not_not.1 (@of_decide_eq_false _ (Ev.ndec a b) h)
structure EvsAt (w : World) (s o : Nat) (l : List Ev) : Prop where
 lt : s < w.heap.size
 c0 : ∀ (i : Nat) (e : Ev), l[i]? = some e → w.cell? ⟨s, o + i * 5, none⟩ = some (.int .i64 e.t)
 c1 : ∀ (i : Nat) (e : Ev), l[i]? = some e → w.cell? ⟨s, o + i * 5 + 1, none⟩ = some (.int .i64 e.k)
 c2 : ∀ (i : Nat) (e : Ev), l[i]? = some e → w.cell? ⟨s, o + i * 5 + 2, none⟩ = some (.int .i64 e.l)
 c3 : ∀ (i : Nat) (e : Ev), l[i]? = some e → w.cell? ⟨s, o + i * 5 + 3, none⟩ = some (.int .u64 e.v)
 c4 : ∀ (i : Nat) (e : Ev), l[i]? = some e → w.cell? ⟨s, o + i * 5 + 4, none⟩ = some (.int .i64 e.m)
theorem EvsAt.below {w w' : World} {s o : Nat} {l : List Ev} (h : EvsAt w s o l) (hb : Below w.heap.size w w') : EvsAt w' s o l :=
 ⟨Nat.lt_of_lt_of_le h.lt hb.size, fun i e he => (hb.cell (p := ⟨s, o + i * 5, none⟩) h.lt).trans (h.c0 i e he), fun i e he => (hb.cell (p := ⟨s, o + i * 5 + 1, none⟩) h.lt).trans (h.c1 i e he), fun i e he => (hb.cell (p := ⟨s, o + i * 5 + 2, none⟩) h.lt).trans (h.c2 i e he), fun i e he => (hb.cell (p := ⟨s, o + i * 5 + 3, none⟩) h.lt).trans (h.c3 i e he), fun i e he => (hb.cell (p := ⟨s, o + i * 5 + 4, none⟩) h.lt).trans (h.c4 i e he)⟩
def EvArg (w : World) (v : Value) (l : List Ev) : Prop := ∃ p cap, v = .slice p l.length cap ∧ (0 < l.length → ∃ s o, p = some ⟨s, o, none⟩ ∧ EvsAt w s o l) ∧ l.length * 40 ≤ 140737488355328 ∧ l.length ≤ cap
theorem EvArg.below {w w' : World} {v : Value} {l : List Ev} (h : EvArg w v l) (hb : Below w.heap.size w w') : EvArg w' v l := by
 obtain ⟨p, cap, e, h1, h2⟩ := h
 refine ⟨p, cap, e, fun h0 => ?_, h2⟩
 obtain ⟨s, o, e2, h3⟩ := h1 h0
 exact ⟨s, o, e2, h3.below hb⟩
def CoArg (w : World) (v : Value) (ls : List (List Int)) : Prop := ∃ p cap, v = .slice p ls.length cap ∧ ls.length ≤ 9223372036854775807 ∧ ∃ vs : List Value, vs.length = ls.length ∧
 (0 < ls.length → ∃ s o, p = some ⟨s, o, none⟩ ∧ s < w.heap.size ∧ ∀ (i : Nat) (u : Value), vs[i]? = some u → w.cell? ⟨s, o + i, none⟩ = some u) ∧ ∀ (i : Nat) (u : Value) (l : List Int), vs[i]? = some u → ls[i]? = some l → IntsR w u l ∧ l.length ≤ 9223372036854775807 ∧ ∃ p c, u = .slice p l.length c ∧ l.length ≤ c
theorem CoArg.below {w w' : World} {v : Value} {ls : List (List Int)} (h : CoArg w v ls) (hb : Below w.heap.size w w') : CoArg w' v ls := by
 obtain ⟨p, cap, e, hl, vs, h1, h2, h3⟩ := h
 refine ⟨p, cap, e, hl, vs, h1, fun h0 => ?_, fun i u l hu hl => ⟨(h3 i u l hu hl).1.below hb, (h3 i u l hu hl).2⟩⟩
 obtain ⟨s, o, e2, h4, h5⟩ := h2 h0
 exact ⟨s, o, e2, Nat.lt_of_lt_of_le h4 hb.size, fun i u hu => (hb.cell (p := ⟨s, o + i, none⟩) h4).trans (h5 i u hu)⟩
structure Gr where
 cells : Int
 evs : List Ev
 rf : List (Int × Int)
 co : List (List Int)
 rmw : List (Int × Int)
 addr : List (Int × Int)
 dat : List (Int × Int)
 ctrl : List (Int × Int)
structure GrV where
 ev : Value
 rf : Value
 co : Value
 rmw : Value
 addr : Value
 dat : Value
 ctrl : Value
structure GrR (w : World) (V : GrV) (g : Gr) : Prop where
 ev : EvArg w V.ev g.evs
 rf : PArg w V.rf g.rf
 co : CoArg w V.co g.co
 rmw : PArg w V.rmw g.rmw
 addr : PArg w V.addr g.addr
 dat : PArg w V.dat g.dat
 ctrl : PArg w V.ctrl g.ctrl
theorem GrR.below {w w' : World} {V : GrV} {g : Gr} (h : GrR w V g) (hb : Below w.heap.size w w') : GrR w' V g :=
 ⟨h.ev.below hb, h.rf.below hb, h.co.below hb, h.rmw.below hb, h.addr.below hb, h.dat.below hb, h.ctrl.below hb⟩
def GrV.cs (V : GrV) (g : Gr) (q : Bool) : Array Value := #[.int .i64 g.cells, V.ev, V.rf, V.co, V.rmw, V.addr, V.dat, V.ctrl, .bool q]
def GrV.val (V : GrV) (g : Gr) : Value := .agg #[.int .i64 g.cells, V.ev, V.rf, V.co, V.rmw, V.addr, V.dat, V.ctrl]
structure BkR (w : World) (b : Nat) (V : GrV) (g : Gr) (q : Bool) : Prop where
 blk : Blk w b 138 (V.cs g q)
 gr : GrR w V g
theorem BkR.below {w w' : World} {b : Nat} {V : GrV} {g : Gr} {q : Bool} (h : BkR w b V g q) (hb : Below w.heap.size w w') : BkR w' b V g q := ⟨h.blk.of_below hb, h.gr.below hb⟩
theorem BkR.cells {w : World} {b : Nat} {V : GrV} {g : Gr} {q : Bool} (h : BkR w b V g q) : w.cell? ⟨b, 0, none⟩ = some (.int .i64 g.cells) := h.blk.cell rfl
theorem BkR.evs {w : World} {b : Nat} {V : GrV} {g : Gr} {q : Bool} (h : BkR w b V g q) : w.cell? ⟨b, 1, none⟩ = some V.ev := h.blk.cell rfl
theorem BkR.rfs {w : World} {b : Nat} {V : GrV} {g : Gr} {q : Bool} (h : BkR w b V g q) : w.cell? ⟨b, 2, none⟩ = some V.rf := h.blk.cell rfl
theorem BkR.cos {w : World} {b : Nat} {V : GrV} {g : Gr} {q : Bool} (h : BkR w b V g q) : w.cell? ⟨b, 3, none⟩ = some V.co := h.blk.cell rfl
theorem BkR.rmws {w : World} {b : Nat} {V : GrV} {g : Gr} {q : Bool} (h : BkR w b V g q) : w.cell? ⟨b, 4, none⟩ = some V.rmw := h.blk.cell rfl
theorem BkR.addrs {w : World} {b : Nat} {V : GrV} {g : Gr} {q : Bool} (h : BkR w b V g q) : w.cell? ⟨b, 5, none⟩ = some V.addr := h.blk.cell rfl
theorem BkR.dats {w : World} {b : Nat} {V : GrV} {g : Gr} {q : Bool} (h : BkR w b V g q) : w.cell? ⟨b, 6, none⟩ = some V.dat := h.blk.cell rfl
theorem BkR.ctrls {w : World} {b : Nat} {V : GrV} {g : Gr} {q : Bool} (h : BkR w b V g q) : w.cell? ⟨b, 7, none⟩ = some V.ctrl := h.blk.cell rfl
theorem BkR.wds {w : World} {b : Nat} {V : GrV} {g : Gr} {q : Bool} (h : BkR w b V g q) : w.cell? ⟨b, 8, none⟩ = some (.bool q) := h.blk.cell rfl
structure Frm (w : World) : Prop where
 lt : 1 < w.heap.size
 c : ∀ j, j < 8 → w.cell? ⟨1, j, none⟩ = some (.int .i64 (([0, 0, 38, 71680, 42, 10240, 60, 49152] : List Int).getD j 0))
theorem Frm.below {w w' : World} (h : Frm w) {n : Nat} (hn : 1 < n) (hb : Below n w w') : Frm w' := ⟨Nat.lt_of_lt_of_le h.lt hb.size, fun j hj => (hb.cell (p := ⟨1, j, none⟩) hn).trans (h.c j hj)⟩
theorem Frm.step {w w' : World} (h : Frm w) (hb : Below w.heap.size w w') : Frm w' := h.below h.lt hb
def Qar (g : Gr) : Bool := decide (g.cells < 0) || decide (4096 < g.cells) || decide ((g.evs.length : Int) < g.cells) || decide (256 < g.evs.length)
theorem Qqz (b : Nat) (V : GrV) (g : Gr) (q : Bool) (w : World) (h : BkR w b V g q) :
  Calls Tryz.prog 116 #[pv b] w fun e w' => e = .returned (.int .i64 (if Qar g then 0 else -1)) ∧ w' = w := by
 obtain ⟨p, cap, e, _, _⟩ := h.gr.ev
 have c0 := h.cells
 have c1 := h.evs
 rw [e] at c1
 by_cases h1 : g.cells < 0
 ·rw [show Qar g = true from by simp [Qar, h1]]
  go_enter Tryz.func116, Tryz.ntmps116
  go_wp2_with fail
  go_ret
  exact ⟨rfl, rfl⟩
 ·by_cases h2 : (4096 : Int) < g.cells
  ·rw [show Qar g = true from by simp [Qar, h2]]
   go_enter Tryz.func116, Tryz.ntmps116
   go_wp2_with fail
   go_ret
   exact ⟨rfl, rfl⟩
  ·by_cases h3 : (g.evs.length : Int) < g.cells
   ·rw [show Qar g = true from by simp [Qar, h3]]
    go_enter Tryz.func116, Tryz.ntmps116
    go_wp2_with fail
    go_ret
    exact ⟨rfl, rfl⟩
   ·by_cases h4 : (256 : Int) < (g.evs.length : Int)
    ·rw [show Qar g = true from by simp [Qar]; omega]
     go_enter Tryz.func116, Tryz.ntmps116
     go_wp2_with fail
     go_ret
     exact ⟨rfl, rfl⟩
    ·rw [show Qar g = false from by simp [Qar]; omega]
     go_enter Tryz.func116, Tryz.ntmps116
     go_wp2_with fail
     go_ret
     exact ⟨rfl, rfl⟩
def GrB (g : Gr) : Prop := g.rf.length * 16 ≤ 140737488355328 ∧ g.rmw.length * 16 ≤ 140737488355328 ∧ g.addr.length * 16 ≤ 140737488355328 ∧ g.dat.length * 16 ≤ 140737488355328 ∧ g.ctrl.length * 16 ≤ 140737488355328 ∧ g.co.length * 24 ≤ 140737488355328 ∧ ∀ l ∈ g.co, l.length * 8 ≤ 140737488355328
def Qgv (e : Ev) : Nat → Option Value
 | 0 => some (.int .i64 e.t)
 | 1 => some (.int .i64 e.k)
 | 2 => some (.int .i64 e.l)
 | 3 => some (.int .u64 e.v)
 | 4 => some (.int .i64 e.m)
 | _ => none
def Qei (A : List Nat) (via p : Nat) : List Nat := if (gr A p).testBit via then A.set p (gr A p ||| gr A via) else A
def Qbx (A : List Nat) (via k : Nat) : List Nat := (List.range k).foldl (fun A p => Qei A via p) A
def Qcr (L : List Nat) (k : Nat) : List Nat := (List.range k).foldl (fun A via => Qbx A via L.length) L
def Qdw (L : List Nat) : List Nat := Qcr L L.length
theorem Qnp (A : List Nat) (via p : Nat) : (Qei A via p).length = A.length := by unfold Qei; split <;> simp
theorem Qgw (A : List Nat) (via k : Nat) : Qbx A via (k + 1) = Qei (Qbx A via k) via k := by simp [Qbx, List.range_succ]
theorem Qi7 (L : List Nat) (k : Nat) : Qcr L (k + 1) = Qbx (Qcr L k) k L.length := by simp [Qcr, List.range_succ]
theorem Qif (A : List Nat) (via k : Nat) : (Qbx A via k).length = A.length := by
 induction k with
 | zero => rfl
 | succ k ih => rw [Qgw, Qnp, ih]
theorem Qgx (L : List Nat) (k : Nat) : (Qcr L k).length = L.length := by
 induction k with
 | zero => rfl
 | succ k ih => rw [Qi7, Qif, ih]
theorem Quu (ba ca : Nat) (L : List Nat) (w : World) (h : IsRel w ba ca L) :
  Calls Tryz.prog 69 #[pv ba] w fun e w' => ∃ b c, e = .returned (pv b) ∧ Made w w' b c (Qdw L) := by
 have hl := h.len
 go_enter Tryz.func69, Tryz.ntmps69
 go_wp2_with fail
 refine (Qto ba ca L _ h).mono ?_
 rintro e w1 ⟨b, c, rfl, hM1⟩
 have hh := hM1.rel.hcell
 go_wp2_with fail
 clear hh h
 go_loopw [13] (fun i wr => ∃ k : Nat, k ≤ L.length ∧ i = .int .i64 k ∧ Made w wr b c (Qcr L k)) (fun i _ => L.length - (intOf i).toNat)
 case atStart => exact ⟨0, oW, rfl, hM1⟩
 case round =>
  clear hM1
  obtain ⟨k, hk, rfl, hM⟩ := hrel
  by_cases hlt : k < L.length
  ·have HE : Hid (_ = _) := Qi7 L k
   have hlA := Qgx L k
   generalize Qcr L k = A at *
   have hh := hM.rel.hcell
   rw [hlA] at hh
   have HA : Hid (A.length = L.length) := hlA
   clear hlA
   go_wp2_with fail
   clear hh
   go_loopw [21] (fun i wr => ∃ p : Nat, p ≤ L.length ∧ i = .int .i64 p ∧ Made w wr b c (Qbx A k p)) (fun i _ => L.length - (intOf i).toNat)
   case atStart => exact ⟨0, oW, rfl, hM⟩
   case round =>
    clear hM
    obtain ⟨p, hp, rfl, hM⟩ := hrel
    by_cases hlt2 : p < L.length
    ·have HE2 : Hid (_ = _) := Qgw A k p
     have hlB : (Qbx A k p).length = L.length := by rw [Qif, HA.out]
     generalize Qbx A k p = B at *
     have hpB : p < B.length := by omega
     have hkB : k < B.length := by omega
     obtain ⟨y, ⟨y0, y1, y2, y3⟩, _, q1, q2⟩ := hM.rel.slots (Qbf hpB)
     have HlB : Hid (B.length = L.length) := hlB
     clear hlB
     have hp256 : p < 256 := by omega
     go_wp2_with fail
     refine (Qhc (gr B p) k oW _).mono ?_
     rintro e w2 ⟨rfl, hB2⟩
     have hM2 := hM.step hB2
     clear y y0 y1 y2 y3 q1 q2 hM hB2
     cases hbit : (gr B p).testBit k
     ·have HF : Hid (Qei B k p = B) := by show _ = _; simp [Qei, hbit]
      go_wp2_with fail
      refine ⟨⟨p + 1, oW, by go_num, ?_⟩, by simp [intOf]; omega⟩
      rw [HE2.out, HF.out]
      exact hM2
     ·have HF : Hid (Qei B k p = B.set p (gr B p ||| gr B k)) := by show _ = _; simp [Qei, hbit]
      have HR : Hid (gr B p ||| gr B k < 2 ^ B.length) := Qo7 (hM2.rel.gr_lt p) (hM2.rel.gr_lt k)
      clear hbit
      have hg := Qbf hpB
      have HG : Hid (B[p]? = some (gr B p)) := hg
      obtain ⟨y, ⟨y0, y1, y2, y3⟩, _, q1, q2⟩ := hM2.rel.slots hg
      obtain ⟨v0, v1, v2, v3⟩ := hM2.rel.cells (Qbf hkB)
      clear hg
      go_wp2_with fail
      clear hlt hk hp
      refine wp_region_held_drew (S := fun w' => w'.cell? ⟨b, 0, none⟩ = some (.slice (some ⟨c, 0, none⟩) B.length B.length)) kW y (fun hHeld => ?_)
      refine wpAnyH_take (i := 0) (v := pv b) rfl kW kW kW (fun _ _ _ h => h) (Or.inl ⟨by rfl, ?_⟩) hHeld ?_
      ·intro w' hSw
       clear hHeld
       clear y y0 y1 y2 y3 v0 v1 v2 v3
       simp only [List.getElem_toArray, List.getElem_cons_zero]
       go_simp
      simp only [Act.put, List.getElem_toArray, List.getElem_cons_zero, List.setIfInBounds_toArray, List.set_cons_zero, List.set_cons_succ]
      refine wpAnyH_take (i := 1) (v := pv b) rfl kW kW kW (fun _ _ _ h => h) (Or.inl ⟨by rfl, ?_⟩) hHeld ?_
      ·intro w' hSw
       clear hHeld
       clear y y0 y1 y2 y3 v0 v1 v2 v3
       simp only [List.getElem_toArray, List.getElem_cons_zero, List.getElem_cons_succ]
       go_simp
      simp only [Act.put, List.getElem_toArray, List.getElem_cons_zero, List.getElem_cons_succ, List.setIfInBounds_toArray, List.set_cons_zero, List.set_cons_succ]
      refine wpAnyH_take (i := 2) (v := pv b) rfl kW kW kW (fun _ _ _ h => h) (Or.inl ⟨by rfl, ?_⟩) hHeld ?_
      ·intro w' hSw
       clear hHeld
       clear y y0 y1 y2 y3 v0 v1 v2 v3
       simp only [List.getElem_toArray, List.getElem_cons_zero, List.getElem_cons_succ]
       go_simp
      simp only [Act.put, List.getElem_toArray, List.getElem_cons_zero, List.getElem_cons_succ, List.setIfInBounds_toArray, List.set_cons_zero, List.set_cons_succ]
      refine wpAnyH_take (i := 3) (v := .slice (some ⟨c, 0, none⟩) B.length B.length) rfl kW kW kW (fun _ _ _ h => h) (Or.inl ⟨by rfl, ?_⟩) hHeld ?_
      ·intro w' hSw
       clear hHeld
       clear y y0 y1 y2 y3 v0 v1 v2 v3
       simp only [List.getElem_toArray, List.getElem_cons_zero, List.getElem_cons_succ]
       go_simp
      simp only [Act.put, List.getElem_toArray, List.getElem_cons_zero, List.getElem_cons_succ, List.setIfInBounds_toArray, List.set_cons_zero, List.set_cons_succ]
      refine wpAnyH_take (i := 4) (v := .int .i64 ((p : Nat) : Int)) rfl kW kW kW (fun _ _ _ h => h) (Or.inl ⟨by rfl, ?_⟩) hHeld ?_
      ·intro w' hSw
       clear hHeld
       clear y y0 y1 y2 y3 v0 v1 v2 v3
       simp only [List.getElem_toArray, List.getElem_cons_zero, List.getElem_cons_succ]
       go_simp
      simp only [Act.put, List.getElem_toArray, List.getElem_cons_zero, List.getElem_cons_succ, List.setIfInBounds_toArray, List.set_cons_zero, List.set_cons_succ]
      refine wpAnyH_take (i := 5) (v := pv b) rfl kW kW kW (fun _ _ _ h => h) (Or.inl ⟨by rfl, ?_⟩) hHeld ?_
      ·intro w' hSw
       clear hHeld
       clear y y0 y1 y2 y3 v0 v1 v2 v3
       simp only [List.getElem_toArray, List.getElem_cons_zero, List.getElem_cons_succ]
       go_simp
      simp only [Act.put, List.getElem_toArray, List.getElem_cons_zero, List.getElem_cons_succ, List.setIfInBounds_toArray, List.set_cons_zero, List.set_cons_succ]
      refine wpAnyH_take (i := 6) (v := pv b) rfl kW kW kW (fun _ _ _ h => h) (Or.inl ⟨by rfl, ?_⟩) hHeld ?_
      ·intro w' hSw
       clear hHeld
       clear y y0 y1 y2 y3 v0 v1 v2 v3
       simp only [List.getElem_toArray, List.getElem_cons_zero, List.getElem_cons_succ]
       go_simp
      simp only [Act.put, List.getElem_toArray, List.getElem_cons_zero, List.getElem_cons_succ, List.setIfInBounds_toArray, List.set_cons_zero, List.set_cons_succ]
      refine wpAnyH_take (i := 7) (v := pv b) rfl kW kW kW (fun _ _ _ h => h) (Or.inl ⟨by rfl, ?_⟩) hHeld ?_
      ·intro w' hSw
       clear hHeld
       clear y y0 y1 y2 y3 v0 v1 v2 v3
       simp only [List.getElem_toArray, List.getElem_cons_zero, List.getElem_cons_succ]
       go_simp
      simp only [Act.put, List.getElem_toArray, List.getElem_cons_zero, List.getElem_cons_succ, List.setIfInBounds_toArray, List.set_cons_zero, List.set_cons_succ]
      refine wpAnyH_take (i := 8) (v := .slice (some ⟨c, 0, none⟩) B.length B.length) rfl kW kW kW (fun _ _ _ h => h) (Or.inl ⟨by rfl, ?_⟩) hHeld ?_
      ·intro w' hSw
       clear hHeld
       clear y y0 y1 y2 y3 v0 v1 v2 v3
       simp only [List.getElem_toArray, List.getElem_cons_zero, List.getElem_cons_succ]
       go_simp
      simp only [Act.put, List.getElem_toArray, List.getElem_cons_zero, List.getElem_cons_succ, List.setIfInBounds_toArray, List.set_cons_zero, List.set_cons_succ]
      refine wpAnyH_take (i := 9) (v := .int .i64 ((p : Nat) : Int)) rfl kW kW kW (fun _ _ _ h => h) (Or.inl ⟨by rfl, ?_⟩) hHeld ?_
      ·intro w' hSw
       clear hHeld
       clear y y0 y1 y2 y3 v0 v1 v2 v3
       simp only [List.getElem_toArray, List.getElem_cons_zero, List.getElem_cons_succ]
       go_simp
      simp only [Act.put, List.getElem_toArray, List.getElem_cons_zero, List.getElem_cons_succ, List.setIfInBounds_toArray, List.set_cons_zero, List.set_cons_succ]
      refine wpAnyH_take (i := 10) (v := .pointer (some ⟨c, p * 4, none⟩)) rfl kW kW kW (fun _ _ _ h => h) (Or.inl ⟨by rfl, ?_⟩) hHeld ?_
      ·intro w' hSw
       clear hHeld
       clear y y0 y1 y2 y3 v0 v1 v2 v3
       simp only [List.getElem_toArray, List.getElem_cons_zero, List.getElem_cons_succ]
       go_simp
      simp only [Act.put, List.getElem_toArray, List.getElem_cons_zero, List.getElem_cons_succ, List.setIfInBounds_toArray, List.set_cons_zero, List.set_cons_succ]
      refine wpAnyH_take (i := 12) (v := pv b) rfl kW kW kW (fun _ _ _ h => h) (Or.inl ⟨by rfl, ?_⟩) hHeld ?_
      ·intro w' hSw
       clear hHeld
       clear y y0 y1 y2 y3 v0 v1 v2 v3
       simp only [List.getElem_toArray, List.getElem_cons_zero, List.getElem_cons_succ]
       go_simp
      simp only [Act.put, List.getElem_toArray, List.getElem_cons_zero, List.getElem_cons_succ, List.setIfInBounds_toArray, List.set_cons_zero, List.set_cons_succ]
      refine wpAnyH_take (i := 13) (v := pv b) rfl kW kW kW (fun _ _ _ h => h) (Or.inl ⟨by rfl, ?_⟩) hHeld ?_
      ·intro w' hSw
       clear hHeld
       clear y y0 y1 y2 y3 v0 v1 v2 v3
       simp only [List.getElem_toArray, List.getElem_cons_zero, List.getElem_cons_succ]
       go_simp
      simp only [Act.put, List.getElem_toArray, List.getElem_cons_zero, List.getElem_cons_succ, List.setIfInBounds_toArray, List.set_cons_zero, List.set_cons_succ]
      refine wpAnyH_take (i := 14) (v := pv b) rfl kW kW kW (fun _ _ _ h => h) (Or.inl ⟨by rfl, ?_⟩) hHeld ?_
      ·intro w' hSw
       clear hHeld
       clear y y0 y1 y2 y3 v0 v1 v2 v3
       simp only [List.getElem_toArray, List.getElem_cons_zero, List.getElem_cons_succ]
       go_simp
      simp only [Act.put, List.getElem_toArray, List.getElem_cons_zero, List.getElem_cons_succ, List.setIfInBounds_toArray, List.set_cons_zero, List.set_cons_succ]
      refine wpAnyH_take (i := 15) (v := .slice (some ⟨c, 0, none⟩) B.length B.length) rfl kW kW kW (fun _ _ _ h => h) (Or.inl ⟨by rfl, ?_⟩) hHeld ?_
      ·intro w' hSw
       clear hHeld
       clear y y0 y1 y2 y3 v0 v1 v2 v3
       simp only [List.getElem_toArray, List.getElem_cons_zero, List.getElem_cons_succ]
       go_simp
      simp only [Act.put, List.getElem_toArray, List.getElem_cons_zero, List.getElem_cons_succ, List.setIfInBounds_toArray, List.set_cons_zero, List.set_cons_succ]
      refine wpAnyH_take (i := 16) (v := .int .i64 ((k : Nat) : Int)) rfl kW kW kW (fun _ _ _ h => h) (Or.inl ⟨by rfl, ?_⟩) hHeld ?_
      ·intro w' hSw
       clear hHeld
       clear y y0 y1 y2 y3 v0 v1 v2 v3
       simp only [List.getElem_toArray, List.getElem_cons_zero, List.getElem_cons_succ]
       go_simp
      simp only [Act.put, List.getElem_toArray, List.getElem_cons_zero, List.getElem_cons_succ, List.setIfInBounds_toArray, List.set_cons_zero, List.set_cons_succ]
      refine wpAnyH_take (i := 17) (v := .pointer (some ⟨c, k * 4, none⟩)) rfl kW kW kW (fun _ _ _ h => h) (Or.inl ⟨by rfl, ?_⟩) hHeld ?_
      ·intro w' hSw
       clear hHeld
       clear y y0 y1 y2 y3 v0 v1 v2 v3
       simp only [List.getElem_toArray, List.getElem_cons_zero, List.getElem_cons_succ]
       go_simp
      simp only [Act.put, List.getElem_toArray, List.getElem_cons_zero, List.getElem_cons_succ, List.setIfInBounds_toArray, List.set_cons_zero, List.set_cons_succ]
      refine wpAnyH_ready (rs := [11, 18]) kW sW ?_
      refine AllReadyH.cons rfl (fun K hK => ?_) ?_
      ·simp only [List.getElem_toArray, List.getElem_cons_zero, List.getElem_cons_succ]
       go_simp
       refine hK.out _ _ hHeld (fun hHeld => ?_)
       clear hK K
       refine wpAnyH_ready (rs := [18]) kW sW ?_
       refine AllReadyH.cons rfl (fun K hK => ?_) AllReadyH.nil
       simp only [List.getElem_toArray, List.getElem_cons_zero, List.getElem_cons_succ]
       go_simp
       refine hK.out _ _ hHeld (fun hHeld => ?_)
       clear hK K
       refine wpAnyH_ready (rs := [19]) kW sW ?_
       refine AllReadyH.cons rfl (fun K hK => ?_) AllReadyH.nil
       simp only [List.getElem_toArray, List.getElem_cons_zero, List.getElem_cons_succ]
       go_simp
       have hM2a := (hM2.alloc (.cells #[.int .u64 ((wd (gr B p) 0 : Nat) : Int), .int .u64 ((wd (gr B p) 1 : Nat) : Int), .int .u64 ((wd (gr B p) 2 : Nat) : Int), .int .u64 ((wd (gr B p) 3 : Nat) : Int), .int .u64 ((wd (gr B k) 0 : Nat) : Int), .int .u64 ((wd (gr B k) 1 : Nat) : Int), .int .u64 ((wd (gr B k) 2 : Nat) : Int), .int .u64 ((wd (gr B k) 3 : Nat) : Int)] 102)).drew
       refine hK.out _ _ hM2a.rel.hcell (fun hHeld => ?_)
       clear hK K
       refine wpAnyH_ready (rs := [20]) kW sW ?_
       refine AllReadyH.cons rfl (fun K hK => ?_) AllReadyH.nil
       simp only [List.getElem_toArray, List.getElem_cons_zero, List.getElem_cons_succ]
       go_simp
       go_at_call 67
       refine (Qe8 (gr B p) (gr B k) _ _ (by rw [Qh9]; first | exact (Blk.new _ _ _).drew | exact Blk.new _ _ _)).mono ?_
       rintro e w3 ⟨rfl, hB3⟩
       have hM3 := hM2a.step hB3
       refine hK.out _ _ hM3.rel.hcell (fun hHeld => ?_)
       clear hK K y y0 y1 y2 y3 v0 v1 v2 v3
       refine wpAnyH_take (i := 21) (v := .pointer (some ⟨c, p * 4, none⟩)) rfl kW kW kW (fun _ _ _ h => h) (Or.inl ⟨by rfl, ?_⟩) hHeld ?_
       ·intro w' hSw
        clear hHeld
        simp only [List.getElem_toArray, List.getElem_cons_zero, List.getElem_cons_succ]
        go_simp
       simp only [Act.put, List.getElem_toArray, List.getElem_cons_zero, List.getElem_cons_succ, List.setIfInBounds_toArray, List.set_cons_zero, List.set_cons_succ]
       refine wpAnyH_ready (rs := [22]) kW sW ?_
       refine AllReadyH.cons rfl (fun K hK => ?_) AllReadyH.nil
       simp only [List.getElem_toArray, List.getElem_cons_zero, List.getElem_cons_succ]
       obtain ⟨z, ⟨z0, z1, z2, z3⟩, ⟨f0, f1, f2, f3⟩, q5, q6⟩ := hM3.rel.slots HG.out
       go_simp
       have hM5 := hM3.put hpB HR.out
       have hz5 := hM5.rel.hcell
       rw [List.length_set] at hz5
       refine hK.out _ _ hz5 (fun _ => ?_)
       clear hK K
       refine wpAnyH_done kW ?_ _
       clear hHeld z z0 z1 z2 z3 f0 f1 f2 f3 hz5
       go_wp2_with fail
       refine ⟨⟨p + 1, oW, by go_num, ?_⟩, by simp [intOf]; omega⟩
       rw [HE2.out, HF.out]
       exact hM5
      ·refine AllReadyH.cons rfl (fun K hK => ?_) AllReadyH.nil
       simp only [List.getElem_toArray, List.getElem_cons_zero, List.getElem_cons_succ]
       go_simp
       refine hK.out _ _ hHeld (fun hHeld => ?_)
       clear hK K
       refine wpAnyH_ready (rs := [11]) kW sW ?_
       refine AllReadyH.cons rfl (fun K hK => ?_) AllReadyH.nil
       simp only [List.getElem_toArray, List.getElem_cons_zero, List.getElem_cons_succ]
       go_simp
       refine hK.out _ _ hHeld (fun hHeld => ?_)
       clear hK K
       refine wpAnyH_ready (rs := [19]) kW sW ?_
       refine AllReadyH.cons rfl (fun K hK => ?_) AllReadyH.nil
       simp only [List.getElem_toArray, List.getElem_cons_zero, List.getElem_cons_succ]
       go_simp
       have hM2a := (hM2.alloc (.cells #[.int .u64 ((wd (gr B p) 0 : Nat) : Int), .int .u64 ((wd (gr B p) 1 : Nat) : Int), .int .u64 ((wd (gr B p) 2 : Nat) : Int), .int .u64 ((wd (gr B p) 3 : Nat) : Int), .int .u64 ((wd (gr B k) 0 : Nat) : Int), .int .u64 ((wd (gr B k) 1 : Nat) : Int), .int .u64 ((wd (gr B k) 2 : Nat) : Int), .int .u64 ((wd (gr B k) 3 : Nat) : Int)] 102)).drew
       refine hK.out _ _ hM2a.rel.hcell (fun hHeld => ?_)
       clear hK K
       refine wpAnyH_ready (rs := [20]) kW sW ?_
       refine AllReadyH.cons rfl (fun K hK => ?_) AllReadyH.nil
       simp only [List.getElem_toArray, List.getElem_cons_zero, List.getElem_cons_succ]
       go_simp
       go_at_call 67
       refine (Qe8 (gr B p) (gr B k) _ _ (by rw [Qh9]; first | exact (Blk.new _ _ _).drew | exact Blk.new _ _ _)).mono ?_
       rintro e w3 ⟨rfl, hB3⟩
       have hM3 := hM2a.step hB3
       refine hK.out _ _ hM3.rel.hcell (fun hHeld => ?_)
       clear hK K y y0 y1 y2 y3 v0 v1 v2 v3
       refine wpAnyH_take (i := 21) (v := .pointer (some ⟨c, p * 4, none⟩)) rfl kW kW kW (fun _ _ _ h => h) (Or.inl ⟨by rfl, ?_⟩) hHeld ?_
       ·intro w' hSw
        clear hHeld
        simp only [List.getElem_toArray, List.getElem_cons_zero, List.getElem_cons_succ]
        go_simp
       simp only [Act.put, List.getElem_toArray, List.getElem_cons_zero, List.getElem_cons_succ, List.setIfInBounds_toArray, List.set_cons_zero, List.set_cons_succ]
       refine wpAnyH_ready (rs := [22]) kW sW ?_
       refine AllReadyH.cons rfl (fun K hK => ?_) AllReadyH.nil
       simp only [List.getElem_toArray, List.getElem_cons_zero, List.getElem_cons_succ]
       obtain ⟨z, ⟨z0, z1, z2, z3⟩, ⟨f0, f1, f2, f3⟩, q5, q6⟩ := hM3.rel.slots HG.out
       go_simp
       have hM5 := hM3.put hpB HR.out
       have hz5 := hM5.rel.hcell
       rw [List.length_set] at hz5
       refine hK.out _ _ hz5 (fun _ => ?_)
       clear hK K
       refine wpAnyH_done kW ?_ _
       clear hHeld z z0 z1 z2 z3 f0 f1 f2 f3 hz5
       go_wp2_with fail
       refine ⟨⟨p + 1, oW, by go_num, ?_⟩, by simp [intOf]; omega⟩
       rw [HE2.out, HF.out]
       exact hM5
    ·obtain rfl : p = L.length := by omega
     go_wp2_with fail
     refine ⟨⟨k + 1, oW, by go_num, ?_⟩, by simp [intOf]; omega⟩
     rw [HE.out]
     exact hM
  ·obtain rfl : k = L.length := by omega
   go_wp2_with fail
   go_ret
   exact ⟨b, c, rfl, hM⟩
abbrev g8 (g : Gr) (p1 : Option Addr) (k1 : Nat) (p2 : Option Addr) (k2 : Nat) (p3 : Option Addr) (k3 : Nat) (p4 : Option Addr) (k4 : Nat) (p5 : Option Addr) (k5 : Nat) (p6 : Option Addr) (k6 : Nat) (p7 : Option Addr) (k7 : Nat) : Array Value := #[.int .i64 g.cells, .slice p1 g.evs.length k1, .slice p2 g.rf.length k2, .slice p3 g.co.length k3, .slice p4 g.rmw.length k4, .slice p5 g.addr.length k5, .slice p6 g.dat.length k6, .slice p7 g.ctrl.length k7]
end Go.Proofs.YtdkogbfamdnheaaGreatDoor
