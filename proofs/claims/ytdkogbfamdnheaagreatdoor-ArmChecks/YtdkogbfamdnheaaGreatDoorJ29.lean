import Derived.Test.YtdkogbfamdnheaaGreatDoorJ28
import Derived.Test.YtdkogbfamdnheaaGreatDoorIdentWalk
namespace Go.Proofs.YtdkogbfamdnheaaGreatDoor
open Go.RowKit Go.Shelf Sx
set_option maxRecDepth 100000
set_option maxHeartbeats 16000000
set_option linter.unusedSimpArgs false
set_option linter.unusedVariables false
set_option maxRecDepth 100000 in
theorem Qlu (m n c0 : Nat) (p : Option Addr) (v : Value) (l : List Bool) (w : World) (hc : w.cell? ⟨m, 1, none⟩ = some (.slice p n c0)) (hS : SetAt w v l) (hT : Tab w) :
  Calls Tryz.prog 141 #[pv m, v] w fun e w' => ∃ b c, e = .returned (pv b) ∧ Made w w' b c (Qa6 ((n : Nat) : Int) l) := by
 have D := Qa (Qvi (n : Int) v l w hS hT)
 clear hS hT
 go_enter Tryz.func141, Tryz.ntmps141
 go_wp2_with fail
 refine D.out.mono ?_
 rintro e w1 ⟨b, c, rfl, hM⟩
 go_wp2_with fail
 go_ret
 exact ⟨b, c, rfl, hM⟩
theorem Qwi {w : World} {b : Nat} {l : List Bool} {cap : Nat} (h : Blk w b 4 (Qap l)) : SetAt w (.slice (some ⟨b, 0, none⟩) l.length cap) l :=
 .inr ⟨b, 0, cap, rfl, ⟨h.lt, fun i x hx => by rw [Nat.zero_add]; exact h.cell (by simp [Qap, hx])⟩⟩
def mdL (g : Gr) (ms : List Int) : List Bool := Qbd (fun e => ms.contains e.m) g.evs
theorem Qyz (g : Gr) (ms : List Int) : (mdL g ms).length = g.evs.length := by simp [mdL, Qbd]
theorem Qt1 (m : Nat) (V : GrV) (g : Gr) (u : Value) (ms : List Int) (w : World) (h : GrR w V g) (hc : ∀ j v, (V.gs g)[j]? = some v → w.cell? ⟨m, j, none⟩ = some v) (hu : IntsR w u ms) (hm : ms.length ≤ 9223372036854775807) (hT : Tab w) :
  Calls Tryz.prog 143 #[pv m, u] w fun e w' => ∃ b c, e = .returned (pv b) ∧ Made w w' b c (Qa6 (g.evs.length : Int) (mdL g ms)) := by
 obtain ⟨pu, cu, rfl, _⟩ := Qgl hu
 obtain ⟨Ve, Vr, Vc, Vm, Va, Vd, Vt⟩ := V
 obtain ⟨p1, k1, e1, _, _⟩ := h.ev
 obtain ⟨p2, k2, e2, _, _⟩ := Qab h.rf
 obtain ⟨p4, k4, e4, _, _⟩ := Qab h.rmw
 obtain ⟨p5, k5, e5, _, _⟩ := Qab h.addr
 obtain ⟨p6, k6, e6, _, _⟩ := Qab h.dat
 obtain ⟨p7, k7, e7, _, _⟩ := Qab h.ctrl
 obtain ⟨p3, k3, e3, _, _⟩ := Qbg h.co
 dsimp only at e1 e2 e3 e4 e5 e6 e7
 subst e1 e2 e3 e4 e5 e6 e7
 have d0 : w.cell? ⟨m, 0, none⟩ = some (.int .i64 g.cells) := hc 0 _ rfl
 have d1 : w.cell? ⟨m, 1, none⟩ = some (.slice p1 g.evs.length k1) := hc 1 _ rfl
 have d2 : w.cell? ⟨m, 2, none⟩ = some (.slice p2 g.rf.length k2) := hc 2 _ rfl
 have d3 : w.cell? ⟨m, 3, none⟩ = some (.slice p3 g.co.length k3) := hc 3 _ rfl
 have d4 : w.cell? ⟨m, 4, none⟩ = some (.slice p4 g.rmw.length k4) := hc 4 _ rfl
 have d5 : w.cell? ⟨m, 5, none⟩ = some (.slice p5 g.addr.length k5) := hc 5 _ rfl
 have d6 : w.cell? ⟨m, 6, none⟩ = some (.slice p6 g.dat.length k6) := hc 6 _ rfl
 have d7 : w.cell? ⟨m, 7, none⟩ = some (.slice p7 g.ctrl.length k7) := hc 7 _ rfl
 have D := Qa (Qur _ g _ ms w h hu hm)
 unfold GrV.val at D
 dsimp only at D
 have HT := Qa hT
 clear h hc hu hT
 go_enter Tryz.func143, Tryz.ntmps143
 go_wp2_with fail
 refine D.out.mono ?_
 rintro e w1 ⟨gb, rfl, hg, hgl, hB⟩
 have d1' : w1.cell? ⟨m, 1, none⟩ = some (.slice p1 g.evs.length k1) := (hB.cell (p := ⟨m, 1, none⟩) (block_lt_of_cell d1)).trans d1
 have hS : SetAt w1 (.slice (some ⟨gb, 0, none⟩) g.evs.length g.evs.length) (mdL g ms) := by have := Qwi (cap := g.evs.length) hg; rw [show (Qbd (fun e => ms.contains e.m) g.evs) = mdL g ms from rfl, Qyz] at this; exact this
 have D2 := Qa (Qlu m g.evs.length k1 p1 _ _ w1 d1' hS (HT.out.step' hB))
 have HB := Qa hB
 clear hS hg D hB d0 d1 d2 d3 d4 d5 d6 d7 d1'
 go_wp2_with fail
 refine D2.out.mono ?_
 rintro e w2 ⟨b, c, rfl, hM⟩
 go_wp2_with fail
 go_ret
 exact ⟨b, c, rfl, hM.rel, Nat.le_trans HB.out.size hM.hb, Nat.le_trans HB.out.size hM.hc, Qaa HB.out HB.out.size hM.below⟩
def Qb2 (A : List Nat) (Ls : List (List Nat)) : List Nat := Ls.foldl Qaw A
theorem Qk2 (b0 c0 s : Nat) (A : List Nat) (rs : List (Nat × Nat × List Nat)) (w : World) (h0 : IsRel w b0 c0 A) (h : RelsAt w s rs) (hm : rs.length ≤ 1000) (hT : Tab w) (B : Nat) (hB0 : B ≤ b0 ∧ B ≤ c0 ∧ B ≤ w.heap.size) :
  Calls Tryz.prog 140 #[pv b0, .slice (some ⟨s, 0, none⟩) rs.length rs.length] w fun e w' => ∃ b c, e = .returned (pv b) ∧ (B ≤ b ∧ B ≤ c) ∧ IsRel w' b c (Qb2 A (rs.map (·.2.2))) ∧ Below w.heap.size w w' := by
 have HN := Qa hB0
 have H0 := Qa h0
 have H := Qa h
 have HT := Qa hT
 clear h0 h hT hB0
 go_enter Tryz.func140, Tryz.ntmps140
 go_wp2_with fail
 go_loopg [5, 11] rs.length (fun f v5 v11 wr => ∃ (i b c : Nat), v11 = .int .i64 ((i : Nat) : Int) ∧ v5 = pv b ∧ i ≤ rs.length ∧ Hid (i + f = rs.length) ∧ Hid (Below w.heap.size w wr) ∧ Hid (B ≤ b ∧ B ≤ c) ∧ Hid (IsRel wr b c (Qb2 A ((rs.take i).map (·.2.2)))))
 case atStart => exact ⟨0, b0, c0, rfl, rfl, Nat.zero_le _, Nat.zero_add _, Below.refl _ _, ⟨HN.out.1, HN.out.2.1⟩, H0.out⟩
 case round =>
  obtain ⟨i, b, c, rfl, rfl, hi, HIF, HB, HL, HR⟩ := hrel
  generalize hwq : wr = wa at *
  clear hwq
  by_cases hlt : i < rs.length
  ·have I0 : (0 : Int) ≤ (i : Int) := by omega
   have I1 : (i : Int) < (rs.length : Int) := by omega
   obtain ⟨⟨bb, cb, L⟩, hx⟩ : ∃ x, rs[i]? = some x := ⟨_, List.getElem?_eq_getElem hlt⟩
   have hra := H.out.below HB.out
   have lc := hra.cell i _ hx
   have D := Qa (Qob b c bb cb _ L wa HR.out (hra.rel i _ hx) (HT.out.step' HB.out))
   have HX := Qa hx
   clear hra hx
   dsimp only at lc
   go_wp2_with fail
   refine D.out.mono ?_
   rintro e w1 ⟨b2, c2, rfl, hM⟩
   go_wp2_with fail
   go_roundg (rs.length - (i + 1))
   case measure => have := HIF.out; omega
   case rel =>
    refine ⟨i + 1, b2, c2, by go_num, rfl, oW, by have := HIF.out; rw [Hid]; omega, Qaa HB.out HB.out.size hM.below, ⟨Nat.le_trans HN.out.2.2 (Nat.le_trans HB.out.size hM.hb), Nat.le_trans HN.out.2.2 (Nat.le_trans HB.out.size hM.hc)⟩, ?_⟩
    have := hM.rel
    rw [Hid, List.take_add_one, HX.out, Option.toList_some, List.map_append, Qb2, List.foldl_append]
    exact this
  ·obtain rfl : i = rs.length := by omega
   go_wp2_with fail
   go_ret
   have := HR.out
   rw [List.take_length] at this
   exact ⟨b, c, rfl, HL.out, this, HB.out⟩
theorem Touch.step {c : Nat} {w w1 w2 : World} (h : Touch c w w1) (hb : Below w1.heap.size w1 w2) : Touch c w w2 :=
 ⟨hb.os.trans h.os, hb.tape.trans h.tape, hb.output.trans h.output, Nat.le_trans h.size hb.size, fun k hk hc => (hb.block k (Nat.lt_of_lt_of_le hk h.size)).trans (h.block k hk hc)⟩
def Rels (w : World) (E : List (Nat × Nat × List Nat)) : Prop := ∀ x ∈ E, IsRel w x.1 x.2.1 x.2.2
theorem Rels.cons {w : World} {E : List (Nat × Nat × List Nat)} {b c : Nat} {L : List Nat} (h : Rels w E) (hr : IsRel w b c L) : Rels w ((b, c, L) :: E) := fun x hx => by
 rcases List.mem_cons.1 hx with rfl | hx
 ·exact hr
 ·exact h x hx
theorem Qa2 {w : World} {b g : Nat} {t u : TypeId} {cs ds : Array Value} (h : Blk w b t cs) (hg : Blk w g u ds) (ht : t ≠ u) : b ≠ g := by
 intro e
 subst e
 have := h.symm.trans hg
 simp at this
 exact ht this.2
theorem Rels.nil (w : World) : Rels w [] := fun _ hx => absurd hx List.not_mem_nil
theorem Qp7 {w : World} (rs : List (Nat × Nat × List Nat)) (h : Rels w rs) : RelsAt (w.alloc (.cells (rs.map (fun r => pv r.1)).toArray 42)) w.heap.size rs := by
 have hb := Blk.new w 42 (rs.map (fun r => pv r.1)).toArray
 refine ⟨fun i r hr => hb.cell (by simp [hr]), hb.lt, fun i r hr => (h r (List.mem_of_getElem? hr)).below (bW.alloc nW _)⟩
theorem Qwj (w : World) (ms : List Int) : IntsR (w.alloc (.cells (ms.map (fun x => .int .i64 x)).toArray 3)) (.slice (some ⟨w.heap.size, 0, none⟩) ms.length ms.length) ms := by
 have hb := Blk.new w 3 (ms.map (fun x => .int .i64 x)).toArray
 exact .inr ⟨w.heap.size, 0, ms.length, rfl, hb.lt, fun i x hx => by rw [Nat.zero_add]; exact hb.cell (by simp [hx])⟩
def fxC (n : Nat) (bs : Nat → Nat) (br bw bf : Nat) : Array Value := #[pv (bs 0), pv (bs 1), pv (bs 2), pv (bs 3), pv (bs 4), pv (bs 5), pv (bs 6), pv (bs 7), pv (bs 8), pv (bs 9), .slice (some ⟨br, 0, none⟩) n n, .slice (some ⟨bw, 0, none⟩) n n, .slice (some ⟨bf, 0, none⟩) n n]
def moC (V : GrV) (g : Gr) (bs : Nat → Nat) (br bw bf : Nat) (r : Nat → Value) : Array Value := #[.int .i64 g.cells, V.ev, V.rf, V.co, V.rmw, V.addr, V.dat, V.ctrl, pv (bs 0), pv (bs 1), pv (bs 2), pv (bs 3), pv (bs 4), pv (bs 5), pv (bs 6), pv (bs 7), pv (bs 8), pv (bs 9), .slice (some ⟨br, 0, none⟩) g.evs.length g.evs.length, .slice (some ⟨bw, 0, none⟩) g.evs.length g.evs.length, .slice (some ⟨bf, 0, none⟩) g.evs.length g.evs.length, r 0, r 1, r 2, r 3, r 4]
def QDi (r : Nat → Value) (i : Nat) (u : Value) : Nat → Value := fun j => if j = i then u else r j
theorem QGk (V : GrV) (g : Gr) (bs : Nat → Nat) (br bw bf : Nat) (r : Nat → Value) (i : Nat) (hi : i < 5) (u : Value) : (moC V g bs br bw bf r).setIfInBounds (21 + i) u = moC V g bs br bw bf (QDi r i u) := by
 match i, hi with
 | 0, _ => rfl
 | 1, _ => rfl
 | 2, _ => rfl
 | 3, _ => rfl
 | 4, _ => rfl
 | n + 5, h => omega
theorem QDj : ([] : List (Nat × Nat × List Nat)).map (·.2.2) = [] := rfl
theorem Qi5 {b c : Nat} {L : List Nat} {t : List (Nat × Nat × List Nat)} {T : List (List Nat)} (h : t.map (·.2.2) = T) : ((b, c, L) :: t).map (·.2.2) = L :: T := by rw [List.map_cons, h]
theorem Qvl (s : Nat) (rs : List (Nat × Nat × List Nat)) (Lv : List (List Nat)) (hv : rs.map (·.2.2) = Lv) (w : World) (h : RelsAt w s rs) (hm : rs.length ≤ 1000) :
  Calls Tryz.prog 29 #[.slice (some ⟨s, 0, none⟩) rs.length rs.length] w fun e w' => ∃ b c, e = .returned (pv b) ∧ Made w w' b c (Qar Lv) := by
 subst hv
 exact Qja s rs w h hm
theorem Qwk {w : World} {b : Nat} {g : Gr} {x : Int} (h : Blk w b 4 (Qap (Qay g x))) : SetAt w (.slice (some ⟨b, 0, none⟩) g.evs.length g.evs.length) (Qay g x) := by
 have := Qwi (cap := g.evs.length) h
 rw [Qgy] at this
 exact this
end Go.Proofs.YtdkogbfamdnheaaGreatDoor
