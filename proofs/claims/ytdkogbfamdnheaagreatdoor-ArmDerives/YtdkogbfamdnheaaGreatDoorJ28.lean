/- arm's model: only, with, chain. -/
import Derived.Test.YtdkogbfamdnheaaGreatDoorJ21
import Derived.Test.YtdkogbfamdnheaaGreatDoorIdentWalk
import Derived.Test.YtdkogbfamdnheaaGreatDoorJ15
namespace Go.Proofs.YtdkogbfamdnheaaGreatDoor
open Go.RowKit Go.Shelf Sx
set_option maxRecDepth 100000
set_option maxHeartbeats 16000000
set_option linter.unusedSimpArgs false
set_option linter.unusedVariables false
set_option maxRecDepth 100000 in
theorem Qks (m n c0 : Nat) (p : Option Addr) (v : Value) (l : List Bool) (w : World) (hc : w.cell? ⟨m, 1, none⟩ = some (.slice p n c0)) (hS : SetAt w v l) (hT : Tab w) :
  Calls Tryz.prog 141 #[pv m, v] w fun e w' => ∃ b c, e = .returned (pv b) ∧ Made w w' b c (Qa4 ((n : Nat) : Int) l) := by
 have D := Qa (Qt1 ((n : Nat) : Int) v l w hS hT)
 clear hS hT
 go_enter Tryz.func141, Tryz.ntmps141
 go_wp2_with fail
 refine D.out.mono ?_
 rintro e w1 ⟨b, c, rfl, hM⟩
 go_wp2_with fail
 go_ret
 exact ⟨b, c, rfl, hM⟩
theorem Qux {w : World} {b : Nat} {l : List Bool} {cap : Nat} (h : Blk w b 4 (Qaj l)) : SetAt w (.slice (some ⟨b, 0, none⟩) l.length cap) l :=
 .inr ⟨b, 0, cap, rfl, ⟨h.lt, fun i x hx => by rw [Nat.zero_add]; exact h.cell (by simp [Qaj, hx])⟩⟩
def mdL (g : Gr) (ms : List Int) : List Bool := Qbb (fun e => ms.contains e.m) g.evs
theorem Qw5 (g : Gr) (ms : List Int) : (mdL g ms).length = g.evs.length := by simp [mdL, Qbb]
theorem Qsc (m : Nat) (V : GrV) (g : Gr) (u : Value) (ms : List Int) (w : World) (h : GrR w V g) (hc : ∀ j v, (V.gs g)[j]? = some v → w.cell? ⟨m, j, none⟩ = some v) (hu : IntsR w u ms) (hm : ms.length ≤ 9223372036854775807) (hT : Tab w) :
  Calls Tryz.prog 143 #[pv m, u] w fun e w' => ∃ b c, e = .returned (pv b) ∧ Made w w' b c (Qa4 ((g.evs.length : Nat) : Int) (mdL g ms)) := by
 obtain ⟨pu, cu, rfl, _⟩ := Qgd hu
 obtain ⟨Ve, Vr, Vc, Vm, Va, Vd, Vt⟩ := V
 obtain ⟨p1, k1, e1, _, _⟩ := h.ev
 obtain ⟨p2, k2, e2, _, _⟩ := Qab h.rf
 obtain ⟨p4, k4, e4, _, _⟩ := Qab h.rmw
 obtain ⟨p5, k5, e5, _, _⟩ := Qab h.addr
 obtain ⟨p6, k6, e6, _, _⟩ := Qab h.dat
 obtain ⟨p7, k7, e7, _, _⟩ := Qab h.ctrl
 obtain ⟨p3, k3, e3, _, _⟩ := Qbd h.co
 dsimp only at e1 e2 e3 e4 e5 e6 e7
 subst e1 e2 e3 e4 e5 e6 e7
 have d0 : w.cell? ⟨m, 0, none⟩ = some (.int .i64 g.cells) := hc 0 _ rfl
 have d1 : w.cell? ⟨m, 1, none⟩ = some (.slice p1 g.evs.length k1) := hc 1 _ rfl
 have d2 : w.cell? ⟨m, 2, none⟩ = some (.slice p2 g.rf.length k2) := hc 2 _ rfl
 have d3 : w.cell? ⟨m, 3, none⟩ = some (.slice p3 g.co.length k3) := hc 3 _ rfl
 have d4 : w.cell? ⟨m, 4, none⟩ = some (.slice p4 g.rmw.length k4) := hc 4 _ rfl
 have d5 : w.cell? ⟨m, 5, none⟩ = some (.slice p5 g.addr.length k5) := hc 5 _ rfl
 have d6 : w.cell? ⟨m, 6, none⟩ = some (.slice p6 g.dat.length k6) := hc 6 _ rfl
 have d7 : w.cell? ⟨m, 7, none⟩ = some (.slice p7 g.ctrl.length k7) := hc 7 _ rfl
 have D := Qa (Qt4 _ g _ ms w h hu hm)
 unfold GrV.val at D
 dsimp only at D
 have HT := Qa hT
 clear h hc hu hT
 go_enter Tryz.func143, Tryz.ntmps143
 go_wp2_with fail
 refine D.out.mono ?_
 rintro e w1 ⟨gb, rfl, hg, hgl, hB⟩
 have d1' : w1.cell? ⟨m, 1, none⟩ = some (.slice p1 g.evs.length k1) := (hB.cell (p := ⟨m, 1, none⟩) (block_lt_of_cell d1)).trans d1
 have hS : SetAt w1 (.slice (some ⟨gb, 0, none⟩) g.evs.length g.evs.length) (mdL g ms) := by have := Qux (cap := g.evs.length) hg; rw [show (Qbb (fun e => ms.contains e.m) g.evs) = mdL g ms from rfl, Qw5] at this; exact this
 have D2 := Qa (Qks m g.evs.length k1 p1 _ _ w1 d1' hS (HT.out.step' hB))
 have HB := Qa hB
 clear hS hg D hB d0 d1 d2 d3 d4 d5 d6 d7 d1'
 go_wp2_with fail
 refine D2.out.mono ?_
 rintro e w2 ⟨b, c, rfl, hM⟩
 go_wp2_with fail
 go_ret
 exact ⟨b, c, rfl, hM.rel, Nat.le_trans HB.out.size hM.hb, Nat.le_trans HB.out.size hM.hc, Qaa HB.out HB.out.size hM.below⟩
def Qbv (A : List Nat) (Ls : List (List Nat)) : List Nat := Ls.foldl Qav A
theorem Qka (b0 c0 s : Nat) (A : List Nat) (rs : List (Nat × Nat × List Nat)) (w : World) (h0 : IsRel w b0 c0 A) (h : RelsAt w s rs) (hm : rs.length ≤ 1000) (hT : Tab w) (B : Nat) (hB0 : B ≤ b0 ∧ B ≤ c0 ∧ B ≤ w.heap.size) :
  Calls Tryz.prog 140 #[pv b0, .slice (some ⟨s, 0, none⟩) rs.length rs.length] w fun e w' => ∃ b c, e = .returned (pv b) ∧ (B ≤ b ∧ B ≤ c) ∧ IsRel w' b c (Qbv A (rs.map (·.2.2))) ∧ Below w.heap.size w w' := by
 have HN := Qa hB0
 have H0 := Qa h0
 have H := Qa h
 have HT := Qa hT
 clear h0 h hT hB0
 go_enter Tryz.func140, Tryz.ntmps140
 go_wp2_with fail
 go_loopg [5, 11] rs.length (fun f v5 v11 wr => ∃ (i b c : Nat), v11 = .int .i64 ((i : Nat) : Int) ∧ v5 = pv b ∧ i ≤ rs.length ∧ Hid (i + f = rs.length) ∧ Hid (Below w.heap.size w wr) ∧ Hid (B ≤ b ∧ B ≤ c) ∧ Hid (IsRel wr b c (Qbv A ((rs.take i).map (·.2.2)))))
 case atStart => exact ⟨0, b0, c0, rfl, rfl, Nat.zero_le _, Nat.zero_add _, Below.refl _ _, ⟨HN.out.1, HN.out.2.1⟩, H0.out⟩
 case round =>
  obtain ⟨i, b, c, rfl, rfl, hi, HIF, HB, HL, HR⟩ := hrel
  generalize hwq : wr = wa at *
  clear hwq
  by_cases hlt : i < rs.length
  ·have I0 : (0 : Int) ≤ ((i : Nat) : Int) := by omega
   have I1 : ((i : Nat) : Int) < ((rs.length : Nat) : Int) := by omega
   obtain ⟨⟨bb, cb, L⟩, hx⟩ : ∃ x, rs[i]? = some x := ⟨_, List.getElem?_eq_getElem hlt⟩
   have hra := H.out.below HB.out
   have lc := hra.cell i _ hx
   have D := Qa (Qn b c bb cb _ L wa HR.out (hra.rel i _ hx) (HT.out.step' HB.out))
   have HX := Qa hx
   clear hra hx
   dsimp only at lc
   go_wp2_with fail
   refine D.out.mono ?_
   rintro e w1 ⟨b2, c2, rfl, hM⟩
   go_wp2_with fail
   go_roundg (rs.length - (i + 1))
   case measure => have := HIF.out; omega
   case rel =>
    refine ⟨i + 1, b2, c2, by go_num, rfl, by omega, by have := HIF.out; rw [Hid]; omega, Qaa HB.out HB.out.size hM.below, ⟨Nat.le_trans HN.out.2.2 (Nat.le_trans HB.out.size hM.hb), Nat.le_trans HN.out.2.2 (Nat.le_trans HB.out.size hM.hc)⟩, ?_⟩
    have := hM.rel
    rw [Hid, List.take_add_one, HX.out, Option.toList_some, List.map_append, Qbv, List.foldl_append]
    exact this
  ·obtain rfl : i = rs.length := by omega
   go_wp2_with fail
   go_ret
   have := HR.out
   rw [List.take_length] at this
   exact ⟨b, c, rfl, HL.out, this, HB.out⟩
theorem Touch.step {c : Nat} {w w1 w2 : World} (h : Touch c w w1) (hb : Below w1.heap.size w1 w2) : Touch c w w2 :=
 ⟨hb.os.trans h.os, hb.tape.trans h.tape, hb.output.trans h.output, Nat.le_trans h.size hb.size, fun k hk hc => (hb.block k (Nat.lt_of_lt_of_le hk h.size)).trans (h.block k hk hc)⟩
def Rels (w : World) (E : List (Nat × Nat × List Nat)) : Prop := ∀ x ∈ E, IsRel w x.1 x.2.1 x.2.2
theorem Rels.cons {w : World} {E : List (Nat × Nat × List Nat)} {b c : Nat} {L : List Nat} (h : Rels w E) (hr : IsRel w b c L) : Rels w ((b, c, L) :: E) := fun x hx => by
 rcases List.mem_cons.1 hx with rfl | hx
 ·exact hr
 ·exact h x hx
theorem Qaq {w : World} {b g : Nat} {t u : TypeId} {cs ds : Array Value} (h : Blk w b t cs) (hg : Blk w g u ds) (ht : t ≠ u) : b ≠ g := by
 intro e
 subst e
 have := h.symm.trans hg
 simp at this
 exact ht this.2
theorem Rels.nil (w : World) : Rels w [] := fun _ hx => absurd hx List.not_mem_nil
theorem Qov {w : World} (rs : List (Nat × Nat × List Nat)) (h : Rels w rs) : RelsAt (w.alloc (.cells (rs.map (fun r => pv r.1)).toArray 42)) w.heap.size rs := by
 have hb := Blk.new w 42 (rs.map (fun r => pv r.1)).toArray
 refine ⟨fun i r hr => hb.cell (by simp [hr]), hb.lt, fun i r hr => (h r (List.mem_of_getElem? hr)).below ((Below.refl _ _).alloc (Nat.le_refl _) _)⟩
theorem Quy (w : World) (ms : List Int) : IntsR (w.alloc (.cells (ms.map (fun x => .int .i64 x)).toArray 3)) (.slice (some ⟨w.heap.size, 0, none⟩) ms.length ms.length) ms := by
 have hb := Blk.new w 3 (ms.map (fun x => .int .i64 x)).toArray
 exact .inr ⟨w.heap.size, 0, ms.length, rfl, hb.lt, fun i x hx => by rw [Nat.zero_add]; exact hb.cell (by simp [hx])⟩
def fxC (n : Nat) (bs : Nat → Nat) (br bw bf : Nat) : Array Value := #[pv (bs 0), pv (bs 1), pv (bs 2), pv (bs 3), pv (bs 4), pv (bs 5), pv (bs 6), pv (bs 7), pv (bs 8), pv (bs 9), .slice (some ⟨br, 0, none⟩) n n, .slice (some ⟨bw, 0, none⟩) n n, .slice (some ⟨bf, 0, none⟩) n n]
def moC (V : GrV) (g : Gr) (bs : Nat → Nat) (br bw bf : Nat) (r : Nat → Value) : Array Value := #[.int .i64 g.cells, V.ev, V.rf, V.co, V.rmw, V.addr, V.dat, V.ctrl, pv (bs 0), pv (bs 1), pv (bs 2), pv (bs 3), pv (bs 4), pv (bs 5), pv (bs 6), pv (bs 7), pv (bs 8), pv (bs 9), .slice (some ⟨br, 0, none⟩) g.evs.length g.evs.length, .slice (some ⟨bw, 0, none⟩) g.evs.length g.evs.length, .slice (some ⟨bf, 0, none⟩) g.evs.length g.evs.length, r 0, r 1, r 2, r 3, r 4]
def QBf (r : Nat → Value) (i : Nat) (u : Value) : Nat → Value := fun j => if j = i then u else r j
theorem QD4 (V : GrV) (g : Gr) (bs : Nat → Nat) (br bw bf : Nat) (r : Nat → Value) (i : Nat) (hi : i < 5) (u : Value) : (moC V g bs br bw bf r).setIfInBounds (21 + i) u = moC V g bs br bw bf (QBf r i u) := by
 match i, hi with
 | 0, _ => rfl
 | 1, _ => rfl
 | 2, _ => rfl
 | 3, _ => rfl
 | 4, _ => rfl
 | n + 5, h => omega
theorem QBg : ([] : List (Nat × Nat × List Nat)).map (·.2.2) = [] := rfl
theorem Qic {b c : Nat} {L : List Nat} {t : List (Nat × Nat × List Nat)} {T : List (List Nat)} (h : t.map (·.2.2) = T) : ((b, c, L) :: t).map (·.2.2) = L :: T := by rw [List.map_cons, h]
theorem Qtu (s : Nat) (rs : List (Nat × Nat × List Nat)) (Lv : List (List Nat)) (hv : rs.map (·.2.2) = Lv) (w : World) (h : RelsAt w s rs) (hm : rs.length ≤ 1000) :
  Calls Tryz.prog 29 #[.slice (some ⟨s, 0, none⟩) rs.length rs.length] w fun e w' => ∃ b c, e = .returned (pv b) ∧ Made w w' b c (Qan Lv) := by
 subst hv
 exact Qip s rs w h hm
theorem Quz {w : World} {b : Nat} {g : Gr} {x : Int} (h : Blk w b 4 (Qaj (Qaw g x))) : SetAt w (.slice (some ⟨b, 0, none⟩) g.evs.length g.evs.length) (Qaw g x) := by
 have := Qux (cap := g.evs.length) h
 rw [Qge] at this
 exact this
theorem Qj0 : ∀ (b a : List Int), a.Pairwise (· < ·) → b.Pairwise (· < ·) → (∀ x ∈ a, x ∈ b) → a.Sublist b
 | [], a, _, _, h => by
  cases a with
  | nil => exact List.Sublist.slnil
  | cons x a => exact absurd (h x (by simp)) (by simp)
 | y :: b, [], _, _, _ => List.nil_sublist _
 | y :: b, x :: a, ha, hb, h => by
  obtain ⟨ha1, ha2⟩ := List.pairwise_cons.1 ha
  obtain ⟨hb1, hb2⟩ := List.pairwise_cons.1 hb
  by_cases e : x = y
  ·subst e
   refine List.Sublist.cons_cons x (Qj0 b a ha2 hb2 (fun z hz => ?_))
   have h1 := h z (by simp [hz])
   have h2 := ha1 z hz
   rcases List.mem_cons.1 h1 with rfl | h3
   ·omega
   ·exact h3
  ·have hx : x ∈ b := by
    rcases List.mem_cons.1 (h x (by simp)) with h1 | h1
    ·exact absurd h1 e
    ·exact h1
   have hy := hb1 x hx
   refine List.Sublist.cons y (Qj0 b (x :: a) ha hb2 (fun z hz => ?_))
   rcases List.mem_cons.1 (h z hz) with h1 | h1
   ·rcases List.mem_cons.1 hz with h2 | h2
    ·omega
    ·have := ha1 z h2; omega
   ·exact h1
theorem Qsd (g : Gr) (c : Int) (k : Nat) : (wrs g c k).Pairwise (· < ·) := by
 unfold wrs
 rw [List.pairwise_map]
 refine List.Pairwise.imp (R := (· < ·)) (fun {a b} h => by omega) ?_
 exact List.Pairwise.filter _ List.pairwise_lt_range
theorem QD5 (l : List Int) : (Qde l).Pairwise (· ≤ ·) := by
 unfold Qde
 have := List.pairwise_mergeSort (le := fun x y : Int => decide (x ≤ y)) (by intro a b c; simp; omega) (by intro a b; simp; omega) l
 exact this.imp (fun h => by simpa using h)
theorem Qpv (l : List Int) : (Qde l).Perm l := by unfold Qde; exact List.mergeSort_perm l _
theorem QBh {l : List Int} (h : l.Pairwise (· ≤ ·)) (hn : l.Nodup) : l.Pairwise (· < ·) := by
 have := List.Pairwise.and h hn
 exact this.imp (fun ⟨h1, h2⟩ => by omega)
def Qse (g : Gr) (c : Int) (l : List Int) : Prop := (∀ (i : Nat) (x : Int), l[i]? = some x → ∃ n : Nat, x = ((n : Nat) : Int) ∧ n < g.evs.length ∧ Qd6 g c n = true) ∧ ∀ (i j : Nat) (x : Int), j < i → l[i]? = some x → l[j]? ≠ some x
theorem QBi {l : List Int} (h : ∀ (i j : Nat) (x : Int), j < i → l[i]? = some x → l[j]? ≠ some x) : l.Nodup := by
 rw [List.Nodup, List.pairwise_iff_getElem]
 intro i j hi hj hij e
 exact h j i l[j] hij (List.getElem?_eq_getElem hj) (by rw [List.getElem?_eq_getElem hi, e])
theorem Qy3 {g : Gr} {c : Int} {l : List Int} (hl : l.length = (wrs g c g.evs.length).length) (h0 : l.getD 0 0 = c) (h : Qse g c l) : Qa8 l c (wrs g c g.evs.length) = true := by
 have hm : ∀ x ∈ Qde l, x ∈ wrs g c g.evs.length := fun x hx => by
  obtain ⟨i, hi, e⟩ := List.mem_iff_getElem.1 (Qmc.1 hx)
  obtain ⟨n, hn, h1, h2⟩ := h.1 i x (by rw [List.getElem?_eq_getElem hi, e])
  exact Qiy.2 ⟨n, hn, h1, h2⟩
 have hr := QBh (QD5 l) ((Qpv l).nodup_iff.2 (QBi h.2))
 have hs := Qj0 _ _ hr (Qsd g c _) hm
 have he := hs.eq_of_length (by rw [Ql8, hl])
 unfold Qa8
 rw [decide_eq_true hl, decide_eq_true h0, decide_eq_true he]
 rfl
theorem Qy4 {g : Gr} {c : Int} {l : List Int} (h : Qa8 l c (wrs g c g.evs.length) = true) : l.length = (wrs g c g.evs.length).length ∧ l.getD 0 0 = c ∧ Qse g c l := by
 obtain ⟨h1, h2, h3⟩ := Qfi h
 refine ⟨h1, h2, fun i x hx => ?_, fun i j x hij hx hy => ?_⟩
 ·have : x ∈ Qde l := Qmc.2 (List.mem_of_getElem? hx)
  rw [h3] at this
  obtain ⟨n, e, hn, hw⟩ := Qiy.1 this
  exact ⟨n, e, hn, hw⟩
 ·have hn : l.Nodup := by
   rw [← (Qpv l).nodup_iff, h3]
   exact (Qsd g c _).imp (fun h => by omega)
  rw [List.Nodup, List.pairwise_iff_getElem] at hn
  obtain ⟨hi, e1⟩ := List.getElem?_eq_some_iff.1 hx
  obtain ⟨hj, e2⟩ := List.getElem?_eq_some_iff.1 hy
  exact hn j i hj hi hij (by rw [e1, e2])
theorem Qsf {g : Gr} {n c : Nat} (hn : g.cells = (n : Int)) (hc : c < n) (h : ∀ j, j < c → Qa3 g j = false) (hb : Qa3 g c = true) : Qdf g = (c : Int) := by
 have : Qa0 (Qa3 g) 0 g.cells.toNat = (c : Int) := by
  rw [hn, Int.toNat_natCast]
  exact Qbe (Nat.zero_le _) (by omega) (fun j _ hj => h j hj) hb
 unfold Qdf
 rw [this, if_neg (by omega)]
theorem QBj {g : Gr} {n : Nat} (hn : g.cells = (n : Int)) (h : ∀ j, j < n → Qa3 g j = false) : Qdf g = (if (g.co.length : Int) ≤ (n : Int) then -1 else (n : Int)) := by
 have : Qa0 (Qa3 g) 0 g.cells.toNat = -1 := by
  rw [hn, Int.toNat_natCast]
  exact Qa7 (fun j _ hj => h j (by omega))
 unfold Qdf
 rw [this, if_pos rfl, hn]
def Qgz (g : Gr) (c x : Int) : Bool := isB g.evs x [2] && decide ((g.ev x.toNat).l = c)
theorem Qsg {g : Gr} {c x : Int} : Qgz g c x = true ↔ ∃ n : Nat, x = ((n : Nat) : Int) ∧ n < g.evs.length ∧ Qd6 g c n = true := by
 constructor
 ·intro h
  obtain ⟨h1, h2⟩ := Bool.and_eq_true_iff.1 h
  obtain ⟨n, rfl, hn⟩ := Qb1 h1
  refine ⟨n, rfl, hn, ?_⟩
  have hk0 : (g.evs.getD n Ev.zero).k = 2 := by
   have := (Bool.and_eq_true_iff.1 h1).2
   rw [Int.toNat_natCast] at this
   simpa using this
  have hk : (g.ev n).k = 2 := hk0
  rw [Int.toNat_natCast] at h2
  unfold Qd6
  rw [decide_eq_true hk, h2]
  rfl
 ·rintro ⟨n, rfl, hn, hw⟩
  obtain ⟨h1, h2⟩ := Bool.and_eq_true_iff.1 hw
  have hk := of_decide_eq_true h1
  have he : (g.evs.getD n Ev.zero).k = 2 := hk
  unfold Qgz isB
  rw [Int.toNat_natCast, h2, decide_eq_true (by omega : (0 : Int) ≤ (n : Int)), decide_eq_true (by omega : ((n : Nat) : Int) < (g.evs.length : Int)), he]
  rfl
def Qow (g : Gr) (c : Int) (l : List Int) (k : Nat) : Prop := (∀ (i : Nat) (x : Int), i < k → l[i]? = some x → Qgz g c x = true) ∧ ∀ (i j : Nat) (x : Int), i < k → j < i → l[i]? = some x → l[j]? ≠ some x
theorem Qy5 (g : Gr) (c : Int) (l : List Int) : Qow g c l 0 := ⟨fun i x h => by omega, fun i j x h => by omega⟩
theorem Qy6 {g : Gr} {c : Int} {l : List Int} {k : Nat} {x : Int} (h : Qow g c l k) (hx : l[k]? = some x) (ha : Qgz g c x = true) (hn : ∀ t, t < k → l[t]? ≠ some x) : Qow g c l (k + 1) := by
 refine ⟨fun i y hi hy => ?_, fun i j y hi hj hy => ?_⟩
 ·by_cases e : i = k
  ·subst e
   rw [hx] at hy
   cases hy
   exact ha
  ·exact h.1 i y (by omega) hy
 ·by_cases e : i = k
  ·subst e
   rw [hx] at hy
   cases hy
   exact hn j hj
  ·exact h.2 i j y (by omega) hj hy
theorem QBk {g : Gr} {c : Int} {l : List Int} (h : Qow g c l l.length) : Qse g c l := by
 refine ⟨fun i x hx => Qsg.1 (h.1 i x (List.getElem?_eq_some_iff.1 hx).1 hx), fun i j x hj hx => h.2 i j x (List.getElem?_eq_some_iff.1 hx).1 hj hx⟩
theorem Qw6 (V : GrV) (g : Gr) (q : Bool) (w : World) (h : GrR w V g) (h1 : Qbj g = false) (h2 : Qc1 g q = -1) : Calls Tryz.prog 39 #[V.val g] w fun r w' => r = .returned (.int .i64 (Qdf g)) ∧ Below w.heap.size w w' := by
 have hsz : 0 ≤ g.cells ∧ g.cells ≤ (g.evs.length : Int) ∧ g.evs.length ≤ 256 := by
  simp [Qbj] at h1
  omega
 obtain ⟨nc, hn⟩ : ∃ n : Nat, g.cells = (n : Int) := ⟨g.cells.toNat, by omega⟩
 have hl256 := hsz.2.2
 have hnl : nc ≤ g.evs.length := by omega
 obtain ⟨Ve, Vr, Vc, Vm, Va, Vd, Vt⟩ := V
 obtain ⟨pe, ce, ee, hp, _⟩ := h.ev
 obtain ⟨pc, cc2, ec, hcl, hco⟩ := Qbd h.co
 dsimp only at ee ec
 subst ee
 subst ec
 have HP := Qa hp
 have HCO := Qa hco
 have H := Qa h
 have H1 := Qa h1
 have H2 := Qa h2
 have HN := Qa hn
 generalize hr : Qdf g = res
 have HR := Qa hr
 have hB : Below w.heap.size w (w.alloc (.cells #[.int .i64 ((nc : Nat) : Int), .slice pe g.evs.length ce, Vr, .slice pc g.co.length cc2, Vm, Va, Vd, Vt] 27)) := (Below.refl _ _).alloc (Nat.le_refl _) _
 have hb := Blk.new w 27 #[.int .i64 ((nc : Nat) : Int), .slice pe g.evs.length ce, Vr, .slice pc g.co.length cc2, Vm, Va, Vd, Vt]
 unfold GrV.val
 dsimp only
 rw [hn]
 clear hr hp h hco h1 h2 hsz hn
 go_enter Tryz.func39, Tryz.ntmps39
 go_wp2_with fail
 have HB := Qa hB
 have HG := Qa hb
 generalize w.alloc (.cells #[.int .i64 ((nc : Nat) : Int), .slice pe g.evs.length ce, Vr, .slice pc g.co.length cc2, Vm, Va, Vd, Vt] 27) = W0 at *
 clear hb hB
 go_loopg [3] nc (fun f v3 wr => ∃ c : Nat, v3 = .int .i64 ((c : Nat) : Int) ∧ c ≤ nc ∧ c ≤ g.co.length ∧ Hid (c + f = nc) ∧ Hid (∀ j, j < c → Qa3 g j = false) ∧ Hid (Below W0.heap.size W0 wr))
 case atStart => exact ⟨0, rfl, Nat.zero_le _, Nat.zero_le _, Nat.zero_add _, (fun j h => by omega), Below.refl _ _⟩
 case round =>
  obtain ⟨c, rfl, hcn, hcc, HKF, HALL, HW⟩ := hrel
  generalize hwq : wr = wa at *
  clear hwq
  have HBW : Hid (Below w.heap.size w wa) := Qaa HB.out HB.out.size HW.out
  have hG := HG.out.of_below HW.out
  have c0 : wa.cell? ⟨w.heap.size, 0, none⟩ = some (.int .i64 ((nc : Nat) : Int)) := hG.cell rfl
  have c1 : wa.cell? ⟨w.heap.size, 1, none⟩ = some (.slice pe g.evs.length ce) := hG.cell rfl
  have c3 : wa.cell? ⟨w.heap.size, 3, none⟩ = some (.slice pc g.co.length cc2) := hG.cell rfl
  clear hG
  have C0 : (0 : Int) ≤ ((c : Nat) : Int) := by omega
  by_cases hlt : c < nc ∧ c < g.co.length
  ·obtain ⟨hl1, hl2⟩ := hlt
   have C1 : ((c : Nat) : Int) < ((g.co.length : Nat) : Int) := by omega
   have C2 : ((c : Nat) : Int) < ((nc : Nat) : Int) := by omega
   obtain ⟨l, hl⟩ : ∃ l, g.co[c]? = some l := ⟨_, List.getElem?_eq_getElem hl2⟩
   obtain ⟨sc, oc, u, rfl, hsc, hcu, hiu, hul⟩ := HCO.out c l hl
   obtain ⟨pl, cl, rfl, hpl⟩ := Qce hiu
   have x0 : wa.cell? ⟨sc, oc + c, none⟩ = some (.slice pl l.length cl) := (HBW.out.cell (p := ⟨sc, oc + c, none⟩) hsc).trans hcu
   have HPL := Qa hpl
   have HBAD : Hid (Qa8 l ((c : Nat) : Int) (wrs g ((c : Nat) : Int) g.evs.length) = false → res = ((c : Nat) : Int)) := fun h => by
    rw [← HR.out]
    refine Qsf HN.out hl1 HALL.out ?_
    unfold Qa3
    rw [List.getD_eq_getElem?_getD, hl]
    simp [h]
   have HOKN : Hid (Qa8 l ((c : Nat) : Int) (wrs g ((c : Nat) : Int) g.evs.length) = true → ∀ j, j < c + 1 → Qa3 g j = false) := fun h j hj => by
    by_cases e : j = c
    ·subst e
     unfold Qa3
     rw [List.getD_eq_getElem?_getD, hl]
     simp [h]
     omega
    ·exact HALL.out j (by omega)
   have hws : 0 < (wrs g ((c : Nat) : Int) g.evs.length).length := List.length_pos_iff.2 (Qo H1.out H2.out (c := c) (by rw [HN.out]; omega))
   have HWS := Qa hws
   clear hl hcu hiu hpl hws
   by_cases hl0 : l.length = 0
   ·obtain rfl := HBAD.out (by
     cases e : Qa8 l ((c : Nat) : Int) (wrs g ((c : Nat) : Int) g.evs.length)
     ·rfl
     ·have := (Qfi e).1; have := HWS.out; omega)
    have q0 : (((l.length : Nat) : Int) == 0) = true := by rw [hl0]; rfl
    clear hl0
    go_wp2_with fail
    go_ret
    exact ⟨rfl, HBW.out⟩
   ·have q0 : (((l.length : Nat) : Int) == 0) = false := by rw [beq_eq_false_iff_ne]; omega
    obtain ⟨sl, ol, rfl, hsl, hcl3⟩ := HPL.out (by omega)
    have L0 : 0 < l.length := by omega
    have LP : (0 : Int) < ((l.length : Nat) : Int) := by omega
    obtain ⟨xf, hxf⟩ : ∃ x, l[0]? = some x := ⟨_, List.getElem?_eq_getElem L0⟩
    have y0 : wa.cell? ⟨sl, ol, none⟩ = some (.int .i64 xf) := (HBW.out.cell (p := ⟨sl, ol, none⟩) hsl).trans (hcl3 0 xf hxf)
    have HXF : Hid (l.getD 0 0 = xf) := by rw [Hid, List.getD_eq_getElem?_getD, hxf]; rfl
    have HCL3 := Qa hcl3
    clear hl0 hxf hcl3
    by_cases hfc : xf = ((c : Nat) : Int)
    ·subst hfc
     have q1 : ((((c : Nat) : Int)) != ((c : Nat) : Int)) = false := by simp
     go_wp2_with fail
     clear c0 c3 x0 y0 q0 q1
     go_loopg [5, 6] g.evs.length (fun f v5 v6 wr => ∃ i : Nat, v6 = .int .i64 ((i : Nat) : Int) ∧ v5 = .int .i64 (((wrs g ((c : Nat) : Int) i).length : Nat) : Int) ∧ i ≤ g.evs.length ∧ Hid (i + f = g.evs.length) ∧ wr = wa)
     case atStart => exact ⟨0, rfl, rfl, Nat.zero_le _, Nat.zero_add _, rfl⟩
     case round =>
      obtain ⟨i, rfl, rfl, hi0, HKG, rfl⟩ := hrel
      have I0 : (0 : Int) ≤ ((i : Nat) : Int) := by omega
      by_cases hil : i < g.evs.length
      ·have I1 : ((i : Nat) : Int) < ((g.evs.length : Nat) : Int) := by omega
       obtain ⟨s, o, rfl, hat⟩ := HP.out (by omega)
       have x1 := (hat.below HBW.out).c1 i _ (Gr.ev_at hil)
       have x2 := (hat.below HBW.out).c2 i _ (Gr.ev_at hil)
       have hwl := Qn9 g ((c : Nat) : Int) i
       clear hat
       by_cases hk : (g.ev i).k = 2
       ·have q2 : (((g.ev i).k : Int) == 2) = true := by rw [beq_iff_eq]; exact hk
        by_cases hlc : (g.ev i).l = ((c : Nat) : Int)
        ·have q3 : (((g.ev i).l : Int) == ((c : Nat) : Int)) = true := by rw [beq_iff_eq]; exact hlc
         have HS : Hid ((wrs g ((c : Nat) : Int) (i + 1)).length = (wrs g ((c : Nat) : Int) i).length + 1) := by rw [Hid, Qn8 (by simp [Qd6, hk, hlc])]; simp
         clear hk hlc
         generalize (wrs g ((c : Nat) : Int) i).length = nn at *
         go_wp2_with fail
         go_roundg (g.evs.length - (i + 1))
         case measure => have := HKG.out; omega
         case rel => exact ⟨i + 1, by go_num, by rw [HS.out]; go_num, by omega, by have := HKG.out; rw [Hid]; omega, rfl⟩
        ·have q3 : (((g.ev i).l : Int) == ((c : Nat) : Int)) = false := by rw [beq_eq_false_iff_ne]; exact hlc
         have HS : Hid ((wrs g ((c : Nat) : Int) (i + 1)).length = (wrs g ((c : Nat) : Int) i).length) := by rw [Hid, Qje (by simp [Qd6, hlc])]
         clear hk hlc
         go_wp2_with fail
         go_roundg (g.evs.length - (i + 1))
         case measure => have := HKG.out; omega
         case rel => exact ⟨i + 1, by go_num, by rw [HS.out], by omega, by have := HKG.out; rw [Hid]; omega, rfl⟩
       ·have q2 : (((g.ev i).k : Int) == 2) = false := by rw [beq_eq_false_iff_ne]; exact hk
        have HS : Hid ((wrs g ((c : Nat) : Int) (i + 1)).length = (wrs g ((c : Nat) : Int) i).length) := by rw [Hid, Qje (by simp [Qd6, hk])]
        clear hk
        go_wp2_with fail
        go_roundg (g.evs.length - (i + 1))
        case measure => have := HKG.out; omega
        case rel => exact ⟨i + 1, by go_num, by rw [HS.out], by omega, by have := HKG.out; rw [Hid]; omega, rfl⟩
      ·obtain rfl : i = g.evs.length := by omega
       by_cases hll : l.length = (wrs g ((c : Nat) : Int) g.evs.length).length
       ·have q4 : (((l.length : Nat) : Int) != (((wrs g ((c : Nat) : Int) g.evs.length).length : Nat) : Int)) = false := by rw [hll]; simp
        have HORD : Hid (Qse g ((c : Nat) : Int) l → Qa8 l ((c : Nat) : Int) (wrs g ((c : Nat) : Int) g.evs.length) = true) := fun h => Qy3 hll HXF.out h
        have HNOT : Hid (¬ Qse g ((c : Nat) : Int) l → Qa8 l ((c : Nat) : Int) (wrs g ((c : Nat) : Int) g.evs.length) = false) := fun h => by
         cases e : Qa8 l ((c : Nat) : Int) (wrs g ((c : Nat) : Int) g.evs.length)
         ·rfl
         ·exact absurd (Qy4 e).2.2 h
        clear hll hil
        generalize (wrs g ((c : Nat) : Int) g.evs.length).length = nw at *
        go_wp2_with fail
        clear q4 c1
        go_loopg [7] l.length (fun f v7 wr => ∃ i : Nat, v7 = .int .i64 ((i : Nat) : Int) ∧ i ≤ l.length ∧ Hid (i + f = l.length) ∧ Hid (Qow g ((c : Nat) : Int) l i) ∧ Hid (Below W0.heap.size W0 wr))
        case atStart => exact ⟨0, rfl, Nat.zero_le _, Nat.zero_add _, Qy5 _ _ _, HW.out⟩
        case round =>
         obtain ⟨ii, rfl, hi1, HKH, HUP, HW2⟩ := hrel
         generalize hwq2 : wr = wb at *
         clear hwq2
         have HBb : Hid (Below w.heap.size w wb) := Qaa HB.out HB.out.size HW2.out
         have J0 : (0 : Int) ≤ ((ii : Nat) : Int) := by omega
         by_cases hil2 : ii < l.length
         ·have J1 : ((ii : Nat) : Int) < ((l.length : Nat) : Int) := by omega
          obtain ⟨x, hx⟩ : ∃ x, l[ii]? = some x := ⟨_, List.getElem?_eq_getElem hil2⟩
          have HXX := Qa hx
          have HGb := Qa (HG.out.of_below HW2.out)
          have HSL : Hid (sl < wb.heap.size) := Nat.lt_of_lt_of_le hsl HBb.out.size
          have z9 : wb.cell? ⟨sl, ol + ii, none⟩ = some (.int .i64 x) := (HBb.out.cell (p := ⟨sl, ol + ii, none⟩) hsl).trans (HCL3.out ii x hx)
          have HC0 := Qa (Qji _ g x 2 wb.drew (H.out.below HBb.out.drew))
          unfold GrV.val at HC0
          dsimp only at HC0
          rw [HN.out] at HC0
          clear hx
          go_upto_region 18 with fail
          generalize hgbn : w.heap.size = gb at *
          have HZ : Hid (∀ W, Below wb.heap.size wb W → W.cell? ⟨gb, 0, none⟩ = some (.int .i64 ((nc : Nat) : Int)) ∧ W.cell? ⟨gb, 1, none⟩ = some (.slice pe g.evs.length ce) ∧ W.cell? ⟨gb, 2, none⟩ = some (Vr) ∧ W.cell? ⟨gb, 3, none⟩ = some (.slice (some ⟨sc, oc, none⟩) g.co.length cc2) ∧ W.cell? ⟨gb, 4, none⟩ = some (Vm) ∧ W.cell? ⟨gb, 5, none⟩ = some (Va) ∧ W.cell? ⟨gb, 6, none⟩ = some (Vd) ∧ W.cell? ⟨gb, 7, none⟩ = some (Vt) ∧ W.cell? ⟨sl, ol + ii, none⟩ = some (.int .i64 x)) := fun W hW => ⟨(HGb.out.of_below hW).cell rfl, (HGb.out.of_below hW).cell rfl, (HGb.out.of_below hW).cell rfl, (HGb.out.of_below hW).cell rfl, (HGb.out.of_below hW).cell rfl, (HGb.out.of_below hW).cell rfl, (HGb.out.of_below hW).cell rfl, (HGb.out.of_below hW).cell rfl, (hW.cell (p := ⟨sl, ol + ii, none⟩) HSL.out).trans z9⟩
          clear z9
          go_cut [94] (fun v94 wx => v94 = .bool (!(Qgz g ((c : Nat) : Int) x)) ∧ Hid (Below wb.heap.size wb wx))
          case rest =>
           obtain ⟨rfl, HX⟩ := hcut
           generalize hwz : wc = wz at *
           clear hwz
           have HXW : Hid (Below gb w wz) := HBb.out.trans (HX.out.mono (by rw [← hgbn]; exact HBb.out.size))
           have HWZ : Hid (Below W0.heap.size W0 wz) := HW2.out.trans (HX.out.mono HW2.out.size)
           cases hok : Qgz g ((c : Nat) : Int) x
           ·obtain rfl := HBAD.out (HNOT.out (fun h => by
             have := Qsg.2 (h.1 ii x HXX.out)
             rw [hok] at this
             cases this))
            clear hok
            go_wp2_with fail
            go_ret
            exact ⟨rfl, HXW.out⟩
           ·have HOK := Qa hok
            clear hok
            go_wp2_with fail
            go_loopg [8] ii (fun f v8 wr => ∃ j : Nat, v8 = .int .i64 ((j : Nat) : Int) ∧ j ≤ ii ∧ Hid (j + f = ii) ∧ Hid (∀ t, t < j → l[t]? ≠ some x) ∧ Hid (Below wz.heap.size wz wr))
            case atStart => exact ⟨0, rfl, Nat.zero_le _, Nat.zero_add _, (fun t h => by omega), Below.refl _ _⟩
            case round =>
             obtain ⟨j, rfl, hj1, HKJ, HNO, HV⟩ := hrel
             generalize hwy : wr = wy at *
             clear hwy
             have HYW : Hid (Below gb w wy) := HXW.out.trans (HV.out.mono (by rw [← hgbn]; exact HXW.out.size))
             have P0 : (0 : Int) ≤ ((j : Nat) : Int) := by omega
             by_cases hji : j < ii
             ·have P1 : ((j : Nat) : Int) < ((ii : Nat) : Int) := by omega
              have P2 : ((j : Nat) : Int) < ((l.length : Nat) : Int) := by omega
              obtain ⟨y, hy⟩ : ∃ y, l[j]? = some y := ⟨_, List.getElem?_eq_getElem (by omega)⟩
              have z1 : wy.cell? ⟨sl, ol + j, none⟩ = some (.int .i64 y) := (HYW.out.cell (p := ⟨sl, ol + j, none⟩) hsl).trans (HCL3.out j y hy)
              have z2 : wy.cell? ⟨sl, ol + ii, none⟩ = some (.int .i64 x) := (HYW.out.cell (p := ⟨sl, ol + ii, none⟩) hsl).trans (HCL3.out ii x HXX.out)
              by_cases hxy : y = x
              ·have q5 : ((y : Int) == x) = true := by rw [beq_iff_eq]; exact hxy
               obtain rfl := HBAD.out (HNOT.out (fun h => h.2 ii j x hji HXX.out (by rw [hy, hxy])))
               clear hxy hy
               go_wp2_with fail
               go_quiet (fail)
               go_wp2_with fail
               go_ret
               exact ⟨rfl, by rw [hgbn]; exact Qac HYW.out _⟩
              ·have q5 : ((y : Int) == x) = false := by rw [beq_eq_false_iff_ne]; exact hxy
               have HNO2 : Hid (∀ t, t < j + 1 → l[t]? ≠ some x) := fun t ht => by
                by_cases e : t = j
                ·rw [e, hy]; simpa using hxy
                ·exact HNO.out t (by omega)
               clear hxy hy
               go_wp2_with fail
               go_quiet (fail)
               go_wp2_with fail
               go_roundg (ii - (j + 1))
               case measure => have := HKJ.out; omega
               case rel => exact ⟨j + 1, by go_num, by omega, by have := HKJ.out; rw [Hid]; omega, HNO2.out, Qac HV.out _⟩
             ·have P1 : ¬ (((j : Nat) : Int) < ((ii : Nat) : Int)) := by omega
              have HUP2 : Hid (Qow g ((c : Nat) : Int) l (ii + 1)) := Qy6 HUP.out HXX.out HOK.out (fun t ht => HNO.out t (by omega))
              go_wp2_with fail
              go_roundg (l.length - (ii + 1))
              case measure => have := HKH.out; omega
              case rel => exact ⟨ii + 1, by go_num, by omega, by have := HKH.out; rw [Hid]; omega, HUP2.out, HWZ.out.trans (HV.out.mono HWZ.out.size)⟩
          case first =>
          cases his : isB g.evs x [2]
          ·rw [his] at HC0
           have HC := HC0
           have HO : Hid (Qgz g ((c : Nat) : Int) x = false) := by rw [Hid]; unfold Qgz; rw [his]; rfl
           clear HC0 his
           refine wp_region_held_drew (S := (fun w' => w'.cell? ⟨gb, 0, none⟩ = some (.int .i64 ((nc : Nat) : Int)) ∧ w'.cell? ⟨gb, 1, none⟩ = some (.slice pe g.evs.length ce) ∧ w'.cell? ⟨gb, 2, none⟩ = some (Vr) ∧ w'.cell? ⟨gb, 3, none⟩ = some (.slice (some ⟨sc, oc, none⟩) g.co.length cc2) ∧ w'.cell? ⟨gb, 4, none⟩ = some (Vm) ∧ w'.cell? ⟨gb, 5, none⟩ = some (Va) ∧ w'.cell? ⟨gb, 6, none⟩ = some (Vd) ∧ w'.cell? ⟨gb, 7, none⟩ = some (Vt) ∧ w'.cell? ⟨sl, ol + ii, none⟩ = some (.int .i64 x))) (by kernel_rfl) (HZ.out _ (Below.refl _ _).drew) (fun hHeld => ?_)
           refine tk 0 rfl ?_; simp only [zz]
           refine tk 1 rfl ?_; simp only [zz]
           refine tk 2 rfl ?_; simp only [zz]
           refine tk 3 rfl ?_; simp only [zz]
           refine tk 4 rfl ?_; simp only [zz]
           refine wpAnyH_ready (rs := [5]) (by kernel_rfl) (by simp) ?_
           refine AllReadyH.cons rfl (fun K hK => ?_) AllReadyH.nil
           simp only [z1, z2, z3]
           go_simp
           refine HC.out.mono ?_
           rintro e w5 ⟨rfl, hB5⟩
           have hX5 : Below wb.heap.size wb w5 := ((Below.refl wb.heap.size wb).drew).trans hB5
           refine hK.out _ _ (HZ.out w5 hX5) (fun hHeld => ?_)
           clear hK K
           try simp only [zz]
           refine tk 6 rfl ?_; simp only [zz]
           refine tk 7 rfl ?_; simp only [zz]
           refine tu 8 rfl ?_; simp only [zz]
           refine tu 9 rfl ?_; simp only [zz]
           refine tu 10 rfl ?_; simp only [zz]
           refine tu 11 rfl ?_; simp only [zz]
           refine tu 12 rfl ?_; simp only [zz]
           refine tu 13 rfl ?_; simp only [zz]
           refine tu 14 rfl ?_; simp only [zz]
           refine tu 15 rfl ?_; simp only [zz]
           refine tu 16 rfl ?_; simp only [zz]
           refine tu 17 rfl ?_; simp only [zz]
           refine tu 18 rfl ?_; simp only [zz]
           refine tk 19 rfl ?_; simp only [zz]
           refine wpAnyH_done (by kernel_rfl) ?_ _
           go_wp2_with fail
           go_meet
           exact ⟨by rw [HO.out]; rfl, hX5⟩
          ·rw [his] at HC0
           have HC := HC0
           obtain ⟨n, rfl, hn⟩ := Qb1 his
           have N0 : (0 : Int) ≤ ((n : Nat) : Int) := by omega
           have N1 : ((n : Nat) : Int) < ((g.evs.length : Nat) : Int) := by omega
           obtain ⟨s, o, rfl, hat⟩ := HP.out (by omega)
           have z0 := (hat.below (by rw [hgbn]; exact HBb.out)).c2 n _ (Gr.ev_at hn)
           have hs := (hat.below (by rw [hgbn]; exact HBb.out)).lt
           have HO5 : Hid (Qgz g ((c : Nat) : Int) ((n : Nat) : Int) = decide ((g.ev n).l = ((c : Nat) : Int))) := by rw [Hid]; unfold Qgz; rw [his, Int.toNat_natCast, Bool.true_and]
           generalize (g.ev n).l = la at *
           have HZ2 : Hid (∀ W, Below wb.heap.size wb W → W.cell? ⟨gb, 0, none⟩ = some (.int .i64 ((nc : Nat) : Int)) ∧ W.cell? ⟨gb, 1, none⟩ = some (.slice (some ⟨s, o, none⟩) g.evs.length ce) ∧ W.cell? ⟨gb, 2, none⟩ = some (Vr) ∧ W.cell? ⟨gb, 3, none⟩ = some (.slice (some ⟨sc, oc, none⟩) g.co.length cc2) ∧ W.cell? ⟨gb, 4, none⟩ = some (Vm) ∧ W.cell? ⟨gb, 5, none⟩ = some (Va) ∧ W.cell? ⟨gb, 6, none⟩ = some (Vd) ∧ W.cell? ⟨gb, 7, none⟩ = some (Vt) ∧ W.cell? ⟨sl, ol + ii, none⟩ = some (.int .i64 ((n : Nat) : Int)) ∧ W.cell? ⟨s, o + n * 5 + 2, none⟩ = some (.int .i64 la)) := fun W hW => by
            obtain ⟨a0, a1, a2, a3, a4, a5, a6, a7, a8⟩ := HZ.out W hW
            exact ⟨a0, a1, a2, a3, a4, a5, a6, a7, a8, (hW.cell (p := ⟨s, o + n * 5 + 2, none⟩) hs).trans z0⟩
           clear HC0 his z0 hat
           by_cases hll : la = ((c : Nat) : Int)
           ·have q3 : ((la : Int) != ((c : Nat) : Int)) = false := by simp [hll]
            have HO : Hid (Qgz g ((c : Nat) : Int) ((n : Nat) : Int) = true) := by rw [Hid, HO5.out, decide_eq_true hll]
            clear hll
            refine wp_region_held_drew (S := (fun w' => w'.cell? ⟨gb, 0, none⟩ = some (.int .i64 ((nc : Nat) : Int)) ∧ w'.cell? ⟨gb, 1, none⟩ = some (.slice (some ⟨s, o, none⟩) g.evs.length ce) ∧ w'.cell? ⟨gb, 2, none⟩ = some (Vr) ∧ w'.cell? ⟨gb, 3, none⟩ = some (.slice (some ⟨sc, oc, none⟩) g.co.length cc2) ∧ w'.cell? ⟨gb, 4, none⟩ = some (Vm) ∧ w'.cell? ⟨gb, 5, none⟩ = some (Va) ∧ w'.cell? ⟨gb, 6, none⟩ = some (Vd) ∧ w'.cell? ⟨gb, 7, none⟩ = some (Vt) ∧ w'.cell? ⟨sl, ol + ii, none⟩ = some (.int .i64 ((n : Nat) : Int)) ∧ w'.cell? ⟨s, o + n * 5 + 2, none⟩ = some (.int .i64 la))) (by kernel_rfl) (HZ2.out _ (Below.refl _ _).drew) (fun hHeld => ?_)
            refine tk 0 rfl ?_; simp only [zz]
            refine tk 1 rfl ?_; simp only [zz]
            refine tk 2 rfl ?_; simp only [zz]
            refine tk 3 rfl ?_; simp only [zz]
            refine tk 4 rfl ?_; simp only [zz]
            refine wpAnyH_ready (rs := [5]) (by kernel_rfl) (by simp) ?_
            refine AllReadyH.cons rfl (fun K hK => ?_) AllReadyH.nil
            simp only [z1, z2, z3]
            go_simp
            refine HC.out.mono ?_
            rintro e w5 ⟨rfl, hB5⟩
            have hX5 : Below wb.heap.size wb w5 := ((Below.refl wb.heap.size wb).drew).trans hB5
            refine hK.out _ _ (HZ2.out w5 hX5) (fun hHeld => ?_)
            clear hK K
            try simp only [zz]
            refine tk 6 rfl ?_; simp only [zz]
            refine tk 7 rfl ?_; simp only [zz]
            refine tk 8 rfl ?_; simp only [zz]
            refine tk 9 rfl ?_; simp only [zz]
            refine tk 10 rfl ?_; simp only [zz]
            refine tk 11 rfl ?_; simp only [zz]
            refine tk 12 rfl ?_; simp only [zz]
            refine tk 13 rfl ?_; simp only [zz]
            refine tk 14 rfl ?_; simp only [zz]
            refine tk 15 rfl ?_; simp only [zz]
            refine tk 16 rfl ?_; simp only [zz]
            refine tk 17 rfl ?_; simp only [zz]
            refine tk 18 rfl ?_; simp only [zz]
            refine tk 19 rfl ?_; simp only [zz]
            refine wpAnyH_done (by kernel_rfl) ?_ _
            go_wp2_with fail
            go_meet
            exact ⟨by rw [HO.out]; rfl, hX5⟩
           ·have q3 : ((la : Int) != ((c : Nat) : Int)) = true := by simp [hll]
            have HO : Hid (Qgz g ((c : Nat) : Int) ((n : Nat) : Int) = false) := by rw [Hid, HO5.out, decide_eq_false hll]
            clear hll
            refine wp_region_held_drew (S := (fun w' => w'.cell? ⟨gb, 0, none⟩ = some (.int .i64 ((nc : Nat) : Int)) ∧ w'.cell? ⟨gb, 1, none⟩ = some (.slice (some ⟨s, o, none⟩) g.evs.length ce) ∧ w'.cell? ⟨gb, 2, none⟩ = some (Vr) ∧ w'.cell? ⟨gb, 3, none⟩ = some (.slice (some ⟨sc, oc, none⟩) g.co.length cc2) ∧ w'.cell? ⟨gb, 4, none⟩ = some (Vm) ∧ w'.cell? ⟨gb, 5, none⟩ = some (Va) ∧ w'.cell? ⟨gb, 6, none⟩ = some (Vd) ∧ w'.cell? ⟨gb, 7, none⟩ = some (Vt) ∧ w'.cell? ⟨sl, ol + ii, none⟩ = some (.int .i64 ((n : Nat) : Int)) ∧ w'.cell? ⟨s, o + n * 5 + 2, none⟩ = some (.int .i64 la))) (by kernel_rfl) (HZ2.out _ (Below.refl _ _).drew) (fun hHeld => ?_)
            refine tk 0 rfl ?_; simp only [zz]
            refine tk 1 rfl ?_; simp only [zz]
            refine tk 2 rfl ?_; simp only [zz]
            refine tk 3 rfl ?_; simp only [zz]
            refine tk 4 rfl ?_; simp only [zz]
            refine wpAnyH_ready (rs := [5]) (by kernel_rfl) (by simp) ?_
            refine AllReadyH.cons rfl (fun K hK => ?_) AllReadyH.nil
            simp only [z1, z2, z3]
            go_simp
            refine HC.out.mono ?_
            rintro e w5 ⟨rfl, hB5⟩
            have hX5 : Below wb.heap.size wb w5 := ((Below.refl wb.heap.size wb).drew).trans hB5
            refine hK.out _ _ (HZ2.out w5 hX5) (fun hHeld => ?_)
            clear hK K
            try simp only [zz]
            refine tk 6 rfl ?_; simp only [zz]
            refine tk 7 rfl ?_; simp only [zz]
            refine tk 8 rfl ?_; simp only [zz]
            refine tk 9 rfl ?_; simp only [zz]
            refine tk 10 rfl ?_; simp only [zz]
            refine tk 11 rfl ?_; simp only [zz]
            refine tk 12 rfl ?_; simp only [zz]
            refine tk 13 rfl ?_; simp only [zz]
            refine tk 14 rfl ?_; simp only [zz]
            refine tk 15 rfl ?_; simp only [zz]
            refine tk 16 rfl ?_; simp only [zz]
            refine tk 17 rfl ?_; simp only [zz]
            refine tk 18 rfl ?_; simp only [zz]
            refine tk 19 rfl ?_; simp only [zz]
            refine wpAnyH_done (by kernel_rfl) ?_ _
            go_wp2_with fail
            go_meet
            exact ⟨by rw [HO.out]; rfl, hX5⟩
         ·obtain rfl : ii = l.length := by omega
          have HALL2 := Qa (HOKN.out (HORD.out (QBk HUP.out)))
          go_wp2_with fail
          go_roundg (nc - (c + 1))
          case measure => have := HKF.out; omega
          case rel => exact ⟨c + 1, by go_num, by omega, by omega, by have := HKF.out; rw [Hid]; omega, HALL2.out, HW2.out⟩
       ·have q4 : (((l.length : Nat) : Int) != (((wrs g ((c : Nat) : Int) g.evs.length).length : Nat) : Int)) = true := by rw [bne_iff_ne]; omega
        obtain rfl := HBAD.out (by
         cases e : Qa8 l ((c : Nat) : Int) (wrs g ((c : Nat) : Int) g.evs.length)
         ·rfl
         ·exact absurd (Qfi e).1 hll)
        clear hll
        go_wp2_with fail
        go_ret
        exact ⟨rfl, HBW.out⟩
    ·have q1 : ((xf : Int) != ((c : Nat) : Int)) = true := by rw [bne_iff_ne]; exact hfc
     obtain rfl := HBAD.out (by
      cases e : Qa8 l ((c : Nat) : Int) (wrs g ((c : Nat) : Int) g.evs.length)
      ·rfl
      ·exact absurd (HXF.out.symm.trans (Qfi e).2.1) hfc)
     clear hfc
     go_wp2_with fail
     go_ret
     exact ⟨rfl, HBW.out⟩
  ·by_cases hcn2 : c < nc
   ·obtain rfl : c = g.co.length := by omega
    obtain rfl : res = ((g.co.length : Nat) : Int) := by
     rw [← HR.out]
     exact Qsf HN.out hcn2 HALL.out (by unfold Qa3; rw [decide_eq_true (Nat.le_refl _)]; rfl)
    have d1 : ((g.co.length : Nat) : Int) < ((nc : Nat) : Int) := by omega
    go_wp2_with fail
    go_ret
    exact ⟨rfl, HBW.out⟩
   ·obtain rfl : c = nc := by omega
    have e5 := HR.out.symm.trans (QBj HN.out HALL.out)
    by_cases hle : (g.co.length : Int) ≤ (c : Int)
    ·rw [if_pos hle] at e5
     subst e5
     have d1 : ¬ (((g.co.length : Nat) : Int) < ((c : Nat) : Int)) := by omega
     go_wp2_with fail
     go_ret
     exact ⟨rfl, HBW.out⟩
    ·rw [if_neg hle] at e5
     subst e5
     have d1 : ¬ (((g.co.length : Nat) : Int) < ((c : Nat) : Int)) := by omega
     have d2 : ((c : Nat) : Int) < ((g.co.length : Nat) : Int) := by omega
     go_wp2_with fail
     go_ret
     exact ⟨rfl, HBW.out⟩
theorem Qdx (u v : Value) (l m : List (Int × Int)) (w : World) (h1 : PArg w u l) (h2 : PArg w v m) :
  Calls Tryz.prog 61 #[u, v] w fun r w' => r = .returned (.bool (decide (l = m))) ∧ Below w.heap.size w w' := by
 obtain ⟨p1, c1, rfl, hp1, hl⟩ := Qab h1
 obtain ⟨p2, c2, rfl, hp2, _⟩ := Qab h2
 have HP1 := Qa hp1
 have HP2 := Qa hp2
 generalize hr : decide (l = m) = r
 have HR := Qa hr
 clear hp1 hp2 hr h1 h2
 go_enter Tryz.func61, Tryz.ntmps61
 by_cases hlm : l.length = m.length
 ·rw [← hlm]
  have HLM := Qa hlm
  clear hlm
  go_wp2_with fail
  go_loopg [5] l.length (fun f i wr => ∃ k : Nat, i = .int .i64 ((k : Nat) : Int) ∧ k ≤ l.length ∧ Hid (k + f = l.length) ∧ Hid (∀ j, j < k → l[j]? = m[j]?) ∧ Hid (Below w.heap.size w wr))
  case atStart => exact ⟨0, rfl, Nat.zero_le _, Nat.zero_add _, (fun j h => by omega), Below.refl _ _⟩
  case round =>
   obtain ⟨k, rfl, hk, HKF, HALL, HB⟩ := hrel
   by_cases hkl : k < l.length
   ·obtain ⟨s1, o1, rfl, k1⟩ := HP1.out (by omega)
    obtain ⟨s2, o2, rfl, k2⟩ := HP2.out (by have := HLM.out; omega)
    obtain ⟨⟨xa, xb⟩, hx⟩ : ∃ x, l[k]? = some x := ⟨_, List.getElem?_eq_getElem hkl⟩
    obtain ⟨⟨ya, yb⟩, hy⟩ : ∃ y, m[k]? = some y := ⟨_, List.getElem?_eq_getElem (by have := HLM.out; omega)⟩
    have x0 := (k1.below HB.out).fst k _ hx
    have x1 := (k1.below HB.out).snd k _ hx
    have y0 := (k2.below HB.out).fst k _ hy
    have y1 := (k2.below HB.out).snd k _ hy
    dsimp only at x0 x1 y0 y1
    have K0 : (0 : Int) ≤ ((k : Nat) : Int) := by omega
    have K1 : ((k : Nat) : Int) < ((l.length : Nat) : Int) := by omega
    have HX := Qa hx
    have HY := Qa hy
    have HNE : Hid (¬ (xa = ya ∧ xb = yb) → r = false) := fun h => by
     rw [← HR.out]
     exact decide_eq_false (fun e => h (by have := HX.out; rw [e, HY.out] at this; have := Option.some.inj this; exact ⟨(congrArg Prod.fst this).symm, (congrArg Prod.snd this).symm⟩))
    clear k1 k2 hx hy
    by_cases hxa : xa = ya
    ·subst hxa
     by_cases hxb : xb = yb
     ·subst hxb
      go_upto_region 6 with fail
      go_quiet (fail)
      go_wp2_with fail
      go_roundg (l.length - (k + 1))
      case measure => have := HKF.out; omega
      case rel =>
       refine ⟨k + 1, by go_num, by omega, by have := HKF.out; rw [Hid]; omega, fun j hj => ?_, Qac HB.out _⟩
       by_cases e : j = k
       ·subst e; rw [HX.out, HY.out]
       ·exact HALL.out j (by omega)
     ·have q1 : ((xb : Int) == yb) = false := by rw [beq_eq_false_iff_ne]; exact hxb
      obtain rfl := HNE.out (fun h => hxb h.2)
      go_upto_region 6 with fail
      go_quiet (fail)
      go_wp2_with fail
      go_ret
      exact ⟨rfl, Qac HB.out _⟩
    ·have q1 : ((xa : Int) == ya) = false := by rw [beq_eq_false_iff_ne]; exact hxa
     obtain rfl := HNE.out (fun h => hxa h.1)
     go_upto_region 6 with fail
     go_quiet (fail)
     go_wp2_with fail
     go_ret
     exact ⟨rfl, Qac HB.out _⟩
   ·obtain rfl : k = l.length := by omega
    obtain rfl : r = true := by
     rw [← HR.out]
     refine decide_eq_true (List.ext_getElem? (fun j => ?_))
     by_cases hj : j < l.length
     ·exact HALL.out j hj
     ·rw [List.getElem?_eq_none (by omega), List.getElem?_eq_none (by have := HLM.out; omega)]
    go_wp2_with fail
    go_ret
    exact ⟨rfl, HB.out⟩
 ·have q0 : ((((l.length : Nat) : Int)) != ((m.length : Nat) : Int)) = true := by rw [bne_iff_ne]; omega
  obtain rfl : r = false := by
   rw [← HR.out]
   exact decide_eq_false (fun e => hlm (by rw [e]))
  go_wp2_with fail
  go_ret
  exact ⟨rfl, Below.refl _ _⟩
end Go.Proofs.YtdkogbfamdnheaaGreatDoor
