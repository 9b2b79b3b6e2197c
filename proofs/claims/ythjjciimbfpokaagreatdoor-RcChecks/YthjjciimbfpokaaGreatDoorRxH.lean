/- The reference's Check of stage 10. (Printed by rxh.py.) -/
import Derived.Test.YthjjciimbfpokaaGreatDoorJ35
import Derived.Test.YthjjciimbfpokaaGreatDoorJ37
namespace Go.Proofs.YthjjciimbfpokaaGreatDoor
open Go.RowKit Go.Shelf Sx
set_option maxRecDepth 100000
set_option maxHeartbeats 16000000
set_option linter.unusedSimpArgs false
set_option linter.unusedVariables false
def RefAns (g : Gr) (ax : Int) (l : List Int) (e : Int) : Prop := ∀ ax2 l2 e2, Qf0 g ax2 l2 e2 → ax2 = ax ∧ l2 = l ∧ e2 = e
theorem RefAns.bad {g : Gr} (h : (chk g false).1 ≠ 0) : RefAns g 0 [] 4 := by
 rintro ax l e (⟨_, h1, h2, h3⟩ | ⟨h1, _⟩)
 ·exact ⟨h1, h2, h3⟩
 ·exact absurd h1 h
theorem RefAns.one {g : Gr} {l : List Int} (h0 : (chk g false).1 = 0) (h : Qet g = l) (hl : l ≠ []) : RefAns g 1 l 0 := by
 subst h
 rintro ax l e (⟨h1, _⟩ | ⟨_, he, hr⟩)
 ·exact absurd h0 h1
 ·rcases hr with ⟨_, h1, h2⟩ | ⟨h1, _⟩ | ⟨h1, _⟩
  ·exact ⟨h1, h2, he⟩
  ·exact absurd h1 hl
  ·exact absurd h1 hl
theorem RefAns.two {g : Gr} {l : List Int} (h0 : (chk g false).1 = 0) (h1 : Qet g = []) (h : Qgb g = l) (hl : l ≠ []) : RefAns g 2 l 0 := by
 subst h
 rintro ax l e (⟨h2, _⟩ | ⟨_, he, hr⟩)
 ·exact absurd h0 h2
 ·rcases hr with ⟨h2, _⟩ | ⟨_, _, h2, h3⟩ | ⟨_, h2, _⟩
  ·exact absurd h1 h2
  ·exact ⟨h2, h3, he⟩
  ·exact absurd h2 hl
theorem RefAns.three {g : Gr} {o : List Nat} (h0 : (chk g false).1 = 0) (h1 : Qet g = []) (h2 : Qgb g = []) (h : ∀ o2, Qcj (Qit g) o2 → o = o2) (ho : o ≠ []) : RefAns g 3 (upI o) 0 := by
 rintro ax l e (⟨h3, _⟩ | ⟨_, he, hr⟩)
 ·exact absurd h0 h3
 ·rcases hr with ⟨h3, _⟩ | ⟨_, h3, _⟩ | ⟨_, _, o3, hc, h3⟩
  ·exact absurd h1 h3
  ·exact absurd h2 h3
  ·have e3 := h o3 hc
   subst e3
   rcases h3 with ⟨_, h4, h5⟩ | ⟨h4, _⟩
   ·exact ⟨h4, h5, he⟩
   ·exact absurd h4 ho
theorem RefAns.four {g : Gr} {o o' : List Nat} (h0 : (chk g false).1 = 0) (h1 : Qet g = []) (h2 : Qgb g = []) (h : ∀ o2, Qcj (Qit g) o2 → o = o2) (ho : o = []) (h' : ∀ o2, Qcj (Qmu g) o2 → o' = o2) : RefAns g (if o' = [] then 0 else 4) (upI o') 0 := by
 rintro ax l e (⟨h3, _⟩ | ⟨_, he, hr⟩)
 ·exact absurd h0 h3
 ·rcases hr with ⟨h3, _⟩ | ⟨_, h3, _⟩ | ⟨_, _, o3, hc, h3⟩
  ·exact absurd h1 h3
  ·exact absurd h2 h3
  ·have e3 := h o3 hc
   subst e3
   rcases h3 with ⟨h4, _⟩ | ⟨_, o4, hc4, h5⟩
   ·exact absurd ho h4
   ·have e4 := h' o4 hc4
    subst e4
    rcases h5 with ⟨h6, h7, h8⟩ | ⟨h6, h7, h8⟩
    ·rw [if_neg h6]; exact ⟨h7, h8, he⟩
    ·rw [if_pos h6]; exact ⟨h7, by rw [h8, h6]; rfl, he⟩
def QHh (g : Gr) (w : World) (r : Ending) (w' : World) : Prop := ∃ ax l e v, r = .returned (.tuple #[.int .i64 ax, v, .int .i64 e]) ∧ w'.ownsRow w.heap.size 3 1 v l.length (Qai l) ∧ RefAns g ax l e ∧ Below w.heap.size w w'
theorem Qia {f : Nat → List Int} {k : Nat} (h : ∀ a, a < k → f a = []) (hk : f k = []) : ∀ a, a < k + 1 → f a = [] := fun a ha => by
 by_cases e : a = k
 ·subst e; exact hk
 ·exact h a (by omega)
theorem QFi {g : Gr} (h : Wf g false) {k : Nat} (hk : k < g.rmw.length) : ∃ a b : Nat, g.rmw[k]? = some (((a : Nat) : Int), ((b : Nat) : Int)) ∧ a < g.evs.length ∧ b < g.evs.length := by
 have h6 : Qfa g = -1 := h 5 (by omega)
 have h7 := QDy h6 k (Nat.zero_le _) (by omega)
 have e : g.rmw.getD k (0, 0) = g.rmw[k] := by rw [List.getD_eq_getElem?_getD, List.getElem?_eq_getElem hk]; rfl
 rw [Bool.not_eq_false', Bool.and_eq_true, e] at h7
 have h8 := h7.2
 unfold okU Qgu at h8
 simp only [Bool.and_eq_true] at h8
 obtain ⟨a, ha, ha2⟩ := Qb8 h8.1.1.1
 obtain ⟨b, hb, hb2⟩ := Qb8 h8.1.1.2
 refine ⟨a, b, ?_, ha2, hb2⟩
 rw [List.getElem?_eq_getElem hk, ← ha, ← hb]
theorem Qu3 {W : World} {b b' : Nat} {v : Value} {o : List Nat} (hb : b' ≤ b) (h : W.ownsRow b 3 1 v o.length (Qcg o)) : W.ownsRow b' 3 1 v (upI o).length (Qai (upI o)) := by
 rw [Qo7, show (upI o).length = o.length from by rw [upI, List.length_map]]
 exact Qb2 h hb
theorem QFj {α : Type} : ∀ l : List α, l.length = 11 → ∃ q0 q1 q2 q3 q4 q5 q6 q7 q8 q9 q10, l = [q0, q1, q2, q3, q4, q5, q6, q7, q8, q9, q10]
 | [q0, q1, q2, q3, q4, q5, q6, q7, q8, q9, q10], _ => ⟨q0, q1, q2, q3, q4, q5, q6, q7, q8, q9, q10, rfl⟩
theorem QHi {w : World} {n : Nat} {v : Value} {l0 l1 l2 l3 l4 l5 l6 l7 l8 l9 l10 : List Nat} (h : FcA w n v [l0, l1, l2, l3, l4, l5, l6, l7, l8, l9, l10]) : ∃ (x0 : Option Addr) (y0 t0 : Nat), ∃ (x1 : Option Addr) (y1 t1 : Nat), ∃ (x2 : Option Addr) (y2 t2 : Nat), ∃ (x3 : Option Addr) (y3 t3 : Nat), ∃ (x4 : Option Addr) (y4 t4 : Nat), ∃ (x5 : Option Addr) (y5 t5 : Nat), ∃ (x6 : Option Addr) (y6 t6 : Nat), ∃ (x7 : Option Addr) (y7 t7 : Nat), ∃ (x8 : Option Addr) (y8 t8 : Nat), ∃ (x9 : Option Addr) (y9 t9 : Nat), ∃ (x10 : Option Addr) (y10 t10 : Nat), v = .agg #[.int .i64 ((n : Nat) : Int), .slice x0 y0 t0, .int .i64 ((n : Nat) : Int), .slice x1 y1 t1, .int .i64 ((n : Nat) : Int), .slice x2 y2 t2, .int .i64 ((n : Nat) : Int), .slice x3 y3 t3, .int .i64 ((n : Nat) : Int), .slice x4 y4 t4, .int .i64 ((n : Nat) : Int), .slice x5 y5 t5, .int .i64 ((n : Nat) : Int), .slice x6 y6 t6, .int .i64 ((n : Nat) : Int), .slice x7 y7 t7, .int .i64 ((n : Nat) : Int), .slice x8 y8 t8, .int .i64 ((n : Nat) : Int), .slice x9 y9 t9, .int .i64 ((n : Nat) : Int), .slice x10 y10 t10] ∧ RT w n (.agg #[.int .i64 ((n : Nat) : Int), .slice x2 y2 t2]) l2 ∧ RT w n (.agg #[.int .i64 ((n : Nat) : Int), .slice x3 y3 t3]) l3 ∧ RT w n (.agg #[.int .i64 ((n : Nat) : Int), .slice x5 y5 t5]) l5 ∧ RT w n (.agg #[.int .i64 ((n : Nat) : Int), .slice x6 y6 t6]) l6 ∧ RT w n (.agg #[.int .i64 ((n : Nat) : Int), .slice x7 y7 t7]) l7 ∧ RT w n (.agg #[.int .i64 ((n : Nat) : Int), .slice x8 y8 t8]) l8 ∧ RT w n (.agg #[.int .i64 ((n : Nat) : Int), .slice x9 y9 t9]) l9 ∧ RT w n (.agg #[.int .i64 ((n : Nat) : Int), .slice x10 y10 t10]) l10 := by
 obtain ⟨qs, rfl, hq1, hq2⟩ := h
 obtain ⟨q0, q1, q2, q3, q4, q5, q6, q7, q8, q9, q10, rfl⟩ := QFj qs (by have := congrArg List.length hq1; simpa using this)
 obtain ⟨x0, y0, t0, l0⟩ := q0
 obtain ⟨x1, y1, t1, l1⟩ := q1
 obtain ⟨x2, y2, t2, l2⟩ := q2
 obtain ⟨x3, y3, t3, l3⟩ := q3
 obtain ⟨x4, y4, t4, l4⟩ := q4
 obtain ⟨x5, y5, t5, l5⟩ := q5
 obtain ⟨x6, y6, t6, l6⟩ := q6
 obtain ⟨x7, y7, t7, l7⟩ := q7
 obtain ⟨x8, y8, t8, l8⟩ := q8
 obtain ⟨x9, y9, t9, l9⟩ := q9
 obtain ⟨x10, y10, t10, l10⟩ := q10
 simp only [List.map_cons, List.map_nil, List.cons.injEq, and_true] at hq1
 obtain ⟨rfl, rfl, rfl, rfl, rfl, rfl, rfl, rfl, rfl, rfl, rfl⟩ := hq1
 refine ⟨x0, y0, t0, x1, y1, t1, x2, y2, t2, x3, y3, t3, x4, y4, t4, x5, y5, t5, x6, y6, t6, x7, y7, t7, x8, y8, t8, x9, y9, t9, x10, y10, t10, by simp only [List.flatMap_cons, List.flatMap_nil, List.cons_append, List.nil_append], hq2 (x2, y2, t2, l2) (.tail _ (.tail _ (.head _))), hq2 (x3, y3, t3, l3) (.tail _ (.tail _ (.tail _ (.head _)))), hq2 (x5, y5, t5, l5) (.tail _ (.tail _ (.tail _ (.tail _ (.tail _ (.head _)))))), hq2 (x6, y6, t6, l6) (.tail _ (.tail _ (.tail _ (.tail _ (.tail _ (.tail _ (.head _))))))), hq2 (x7, y7, t7, l7) (.tail _ (.tail _ (.tail _ (.tail _ (.tail _ (.tail _ (.tail _ (.head _)))))))), hq2 (x8, y8, t8, l8) (.tail _ (.tail _ (.tail _ (.tail _ (.tail _ (.tail _ (.tail _ (.tail _ (.head _))))))))), hq2 (x9, y9, t9, l9) (.tail _ (.tail _ (.tail _ (.tail _ (.tail _ (.tail _ (.tail _ (.tail _ (.tail _ (.head _)))))))))), hq2 (x10, y10, t10, l10) (.tail _ (.tail _ (.tail _ (.tail _ (.tail _ (.tail _ (.tail _ (.tail _ (.tail _ (.tail _ (.head _)))))))))))⟩
theorem RT.at_ {w : World} {n : Nat} {x : Option Addr} {y z : Nat} {A : List Nat} (h : RT w n (.agg #[.int .i64 ((n : Nat) : Int), .slice x y z]) A) {p q : Nat} (hp : p < n) (hq : q < n) :
  ∃ s r, x = some ⟨s, 0, none⟩ ∧ y = n ∧ w.cell? ⟨s, p, none⟩ = some (.slice (some ⟨r, 0, none⟩) n n) ∧ w.cell? ⟨r, q, none⟩ = some (.bool (Qbt A ((p : Nat) : Int) ((q : Nat) : Int))) := by
 obtain ⟨x', y', z', rb, F, e, hM, hT⟩ := h
 obtain ⟨rfl, rfl, rfl⟩ : x = x' ∧ y = y' ∧ z = z' := by
  have := congrArg (fun v => match v with
   | Value.agg cs => cs[1]?
   | _ => none) e
  simp at this
  exact this
 obtain ⟨s, cap, e1, _, _, _, c1, c2, _, _⟩ := hM.at_ hp hq
 cases e1
 refine ⟨s, rb p, rfl, rfl, c1, ?_⟩
 rw [c2, ← QAy hT, Ql5, Qrn hp hq]
theorem Qot (V : GrV) (g : Gr) (w : World) (h : GrR w V g) : Calls Tryz.prog 25 #[V.val g] w (QHh g w) := by
 obtain ⟨Ve, Vr, Vc, Vm, Va, Vd, Vt⟩ := V
 obtain ⟨p1, k1, e1, -, -⟩ := h.ev
 obtain ⟨pm, km, em, -, -⟩ := Qab h.rmw
 dsimp only at e1 em
 subst e1 em
 have H := Qa h
 have hB0 : Below w.heap.size w (w.alloc (.cells #[.int .i64 g.cells, .slice p1 g.evs.length k1, Vr, Vc, .slice pm g.rmw.length km, Va, Vd, Vt] 27)) := (Below.refl _ _).alloc (Nat.le_refl _) _
 have HX := Qa (Blk.new w 27 #[.int .i64 g.cells, .slice p1 g.evs.length k1, Vr, Vc, .slice pm g.rmw.length km, Va, Vd, Vt])
 have HB := Qa hB0
 unfold GrV.val
 dsimp only
 clear h hB0
 go_enter Tryz.func25, Tryz.ntmps25
 go_wp2_with fail
 generalize w.alloc (.cells #[.int .i64 g.cells, .slice p1 g.evs.length k1, Vr, Vc, .slice pm g.rmw.length km, Va, Vd, Vt] 27) = W0 at *
 refine (Qqr ⟨.slice p1 g.evs.length k1, Vr, Vc, .slice pm g.rmw.length km, Va, Vd, Vt⟩ g false _ (H.out.below HB.out)).mono ?_
 rintro e w1 ⟨rfl, hB1⟩
 have HX1 := Qa (HX.out.of_below hB1)
 have HB1 := Qa (Qaa HB.out HB.out.size hB1)
 clear HX HB hB1
 obtain ⟨c1, hc1⟩ : ∃ c, (chk g false).1 = c := ⟨_, rfl⟩
 have HC := Qa hc1
 rw [hc1]
 clear hc1
 by_cases hz : c1 = 0
 case neg =>
  go_wp2_with fail
  go_ret3
  exact ⟨0, [], 4, _, rfl, World.ownsRow_nil _ _ _ _, RefAns.bad (by rw [HC.out]; exact hz), HB1.out⟩
 subst hz
 have hw : Wf g false := Qmn HC.out
 have hn : g.evs.length ≤ 256 := by have := rl0 (hw 0 (by omega)); simp [Qbc] at this; omega
 have HW := Qa hw
 have k0 := HX1.out.cell (j := 0) rfl
 have k1' := HX1.out.cell (j := 1) rfl
 have k2 := HX1.out.cell (j := 2) rfl
 have k3 := HX1.out.cell (j := 3) rfl
 have k4 := HX1.out.cell (j := 4) rfl
 have k5 := HX1.out.cell (j := 5) rfl
 have k6 := HX1.out.cell (j := 6) rfl
 have k7 := HX1.out.cell (j := 7) rfl
 clear hw
 go_wp2_with fail
 refine (Qna ⟨.slice p1 g.evs.length k1, Vr, Vc, .slice pm g.rmw.length km, Va, Vd, Vt⟩ g _ (H.out.below HB1.out) hn HW.out).mono ?_
 rintro e w2 ⟨v, rfl, hF, hB2⟩
 clear k0 k1' k2 k3 k4 k5 k6 k7
 rw [QF hn] at hF
 obtain ⟨x0, y0, t0, x1, y1, t1, x2, y2, t2, x3, y3, t3, x4, y4, t4, x5, y5, t5, x6, y6, t6, x7, y7, t7, x8, y8, t8, x9, y9, t9, x10, y10, t10, rfl, hr2, hr3, hr5, hr6, hr7, hr8, hr9, hr10⟩ := QHi hF
 have HR2 := Qa hr2
 have HR3 := Qa hr3
 have HR5 := Qa hr5
 have HR6 := Qa hr6
 have HR7 := Qa hr7
 have HR8 := Qa hr8
 have HR9 := Qa hr9
 have HR10 := Qa hr10
 clear hr2 hr3 hr5 hr6 hr7 hr8 hr9 hr10
 clear hF
 have HX2 := Qa ((HX1.out.of_below hB2).alloc (.cells #[.int .i64 0, .slice none 0 0, .int .i64 0, .slice none 0 0, .int .i64 0, .slice none 0 0, .int .i64 0, .slice none 0 0, .int .i64 0, .slice none 0 0, .int .i64 0, .slice none 0 0, .int .i64 0, .slice none 0 0, .int .i64 0, .slice none 0 0, .int .i64 0, .slice none 0 0, .int .i64 0, .slice none 0 0, .int .i64 0, .slice none 0 0] 54))
 have hz := Blk.new w2 54 #[.int .i64 0, .slice none 0 0, .int .i64 0, .slice none 0 0, .int .i64 0, .slice none 0 0, .int .i64 0, .slice none 0 0, .int .i64 0, .slice none 0 0, .int .i64 0, .slice none 0 0, .int .i64 0, .slice none 0 0, .int .i64 0, .slice none 0 0, .int .i64 0, .slice none 0 0, .int .i64 0, .slice none 0 0, .int .i64 0, .slice none 0 0]
 have hinf : (Tryz.prog.info? 54).map (·.size) = some (#[.int .i64 ((g.evs.length : Nat) : Int), .slice x0 y0 t0, .int .i64 ((g.evs.length : Nat) : Int), .slice x1 y1 t1, .int .i64 ((g.evs.length : Nat) : Int), .slice x2 y2 t2, .int .i64 ((g.evs.length : Nat) : Int), .slice x3 y3 t3, .int .i64 ((g.evs.length : Nat) : Int), .slice x4 y4 t4, .int .i64 ((g.evs.length : Nat) : Int), .slice x5 y5 t5, .int .i64 ((g.evs.length : Nat) : Int), .slice x6 y6 t6, .int .i64 ((g.evs.length : Nat) : Int), .slice x7 y7 t7, .int .i64 ((g.evs.length : Nat) : Int), .slice x8 y8 t8, .int .i64 ((g.evs.length : Nat) : Int), .slice x9 y9 t9, .int .i64 ((g.evs.length : Nat) : Int), .slice x10 y10 t10] : Array Value).size := by kernel_rfl
 have hall : (#[.int .i64 ((g.evs.length : Nat) : Int), .slice x0 y0 t0, .int .i64 ((g.evs.length : Nat) : Int), .slice x1 y1 t1, .int .i64 ((g.evs.length : Nat) : Int), .slice x2 y2 t2, .int .i64 ((g.evs.length : Nat) : Int), .slice x3 y3 t3, .int .i64 ((g.evs.length : Nat) : Int), .slice x4 y4 t4, .int .i64 ((g.evs.length : Nat) : Int), .slice x5 y5 t5, .int .i64 ((g.evs.length : Nat) : Int), .slice x6 y6 t6, .int .i64 ((g.evs.length : Nat) : Int), .slice x7 y7 t7, .int .i64 ((g.evs.length : Nat) : Int), .slice x8 y8 t8, .int .i64 ((g.evs.length : Nat) : Int), .slice x9 y9 t9, .int .i64 ((g.evs.length : Nat) : Int), .slice x10 y10 t10] : Array Value).all (·.oneCell') = true := by kernel_rfl
 have hlow2 := Qaa HB1.out HB1.out.size hB2
 have hBz : Below w2.heap.size w2 ((w2.alloc (.cells #[.int .i64 0, .slice none 0 0, .int .i64 0, .slice none 0 0, .int .i64 0, .slice none 0 0, .int .i64 0, .slice none 0 0, .int .i64 0, .slice none 0 0, .int .i64 0, .slice none 0 0, .int .i64 0, .slice none 0 0, .int .i64 0, .slice none 0 0, .int .i64 0, .slice none 0 0, .int .i64 0, .slice none 0 0, .int .i64 0, .slice none 0 0] 54)).setRow w2.heap.size #[.int .i64 ((g.evs.length : Nat) : Int), .slice x0 y0 t0, .int .i64 ((g.evs.length : Nat) : Int), .slice x1 y1 t1, .int .i64 ((g.evs.length : Nat) : Int), .slice x2 y2 t2, .int .i64 ((g.evs.length : Nat) : Int), .slice x3 y3 t3, .int .i64 ((g.evs.length : Nat) : Int), .slice x4 y4 t4, .int .i64 ((g.evs.length : Nat) : Int), .slice x5 y5 t5, .int .i64 ((g.evs.length : Nat) : Int), .slice x6 y6 t6, .int .i64 ((g.evs.length : Nat) : Int), .slice x7 y7 t7, .int .i64 ((g.evs.length : Nat) : Int), .slice x8 y8 t8, .int .i64 ((g.evs.length : Nat) : Int), .slice x9 y9 t9, .int .i64 ((g.evs.length : Nat) : Int), .slice x10 y10 t10]) := ((Below.refl w2.heap.size w2).alloc (Nat.le_refl _) _).trans (Qbe _ (Nat.le_refl _))
 have HD := Qa (hz.setRow' #[.int .i64 ((g.evs.length : Nat) : Int), .slice x0 y0 t0, .int .i64 ((g.evs.length : Nat) : Int), .slice x1 y1 t1, .int .i64 ((g.evs.length : Nat) : Int), .slice x2 y2 t2, .int .i64 ((g.evs.length : Nat) : Int), .slice x3 y3 t3, .int .i64 ((g.evs.length : Nat) : Int), .slice x4 y4 t4, .int .i64 ((g.evs.length : Nat) : Int), .slice x5 y5 t5, .int .i64 ((g.evs.length : Nat) : Int), .slice x6 y6 t6, .int .i64 ((g.evs.length : Nat) : Int), .slice x7 y7 t7, .int .i64 ((g.evs.length : Nat) : Int), .slice x8 y8 t8, .int .i64 ((g.evs.length : Nat) : Int), .slice x9 y9 t9, .int .i64 ((g.evs.length : Nat) : Int), .slice x10 y10 t10])
 have hs2 : w.heap.size ≤ w2.heap.size := hlow2.size
 have hgl : w.heap.size < w2.heap.size := (HX1.out.of_below hB2).lt
 have HG := Qa (HX2.out.rowOther (m := w2.heap.size) (by omega) #[.int .i64 ((g.evs.length : Nat) : Int), .slice x0 y0 t0, .int .i64 ((g.evs.length : Nat) : Int), .slice x1 y1 t1, .int .i64 ((g.evs.length : Nat) : Int), .slice x2 y2 t2, .int .i64 ((g.evs.length : Nat) : Int), .slice x3 y3 t3, .int .i64 ((g.evs.length : Nat) : Int), .slice x4 y4 t4, .int .i64 ((g.evs.length : Nat) : Int), .slice x5 y5 t5, .int .i64 ((g.evs.length : Nat) : Int), .slice x6 y6 t6, .int .i64 ((g.evs.length : Nat) : Int), .slice x7 y7 t7, .int .i64 ((g.evs.length : Nat) : Int), .slice x8 y8 t8, .int .i64 ((g.evs.length : Nat) : Int), .slice x9 y9 t9, .int .i64 ((g.evs.length : Nat) : Int), .slice x10 y10 t10])
 have HB2 := Qa (Qaa hlow2 hlow2.size hBz)
 have HS2 := Qa (HR2.out.below hBz)
 have HS3 := Qa (HR3.out.below hBz)
 have HS5 := Qa (HR5.out.below hBz)
 have HS6 := Qa (HR6.out.below hBz)
 have HS7 := Qa (HR7.out.below hBz)
 have HS8 := Qa (HR8.out.below hBz)
 have HS9 := Qa (HR9.out.below hBz)
 have HS10 := Qa (HR10.out.below hBz)
 go_upto_region 5 with (first | refine wpList_store_row rfl 54 _ _ rfl w2.heap.size #[.int .i64 ((g.evs.length : Nat) : Int), .slice x0 y0 t0, .int .i64 ((g.evs.length : Nat) : Int), .slice x1 y1 t1, .int .i64 ((g.evs.length : Nat) : Int), .slice x2 y2 t2, .int .i64 ((g.evs.length : Nat) : Int), .slice x3 y3 t3, .int .i64 ((g.evs.length : Nat) : Int), .slice x4 y4 t4, .int .i64 ((g.evs.length : Nat) : Int), .slice x5 y5 t5, .int .i64 ((g.evs.length : Nat) : Int), .slice x6 y6 t6, .int .i64 ((g.evs.length : Nat) : Int), .slice x7 y7 t7, .int .i64 ((g.evs.length : Nat) : Int), .slice x8 y8 t8, .int .i64 ((g.evs.length : Nat) : Int), .slice x9 y9 t9, .int .i64 ((g.evs.length : Nat) : Int), .slice x10 y10 t10] rfl rfl 54 #[.int .i64 0, .slice none 0 0, .int .i64 0, .slice none 0 0, .int .i64 0, .slice none 0 0, .int .i64 0, .slice none 0 0, .int .i64 0, .slice none 0 0, .int .i64 0, .slice none 0 0, .int .i64 0, .slice none 0 0, .int .i64 0, .slice none 0 0, .int .i64 0, .slice none 0 0, .int .i64 0, .slice none 0 0, .int .i64 0, .slice none 0 0] hz hinf rfl hall ?_)
 clear hz hinf hall hlow2 HX1 HB1 hB2 HX2 HR2 HR3 HR5 HR6 HR7 HR8 HR9 HR10
 generalize (w2.alloc (.cells #[.int .i64 0, .slice none 0 0, .int .i64 0, .slice none 0 0, .int .i64 0, .slice none 0 0, .int .i64 0, .slice none 0 0, .int .i64 0, .slice none 0 0, .int .i64 0, .slice none 0 0, .int .i64 0, .slice none 0 0, .int .i64 0, .slice none 0 0, .int .i64 0, .slice none 0 0, .int .i64 0, .slice none 0 0, .int .i64 0, .slice none 0 0] 54)).setRow w2.heap.size #[.int .i64 ((g.evs.length : Nat) : Int), .slice x0 y0 t0, .int .i64 ((g.evs.length : Nat) : Int), .slice x1 y1 t1, .int .i64 ((g.evs.length : Nat) : Int), .slice x2 y2 t2, .int .i64 ((g.evs.length : Nat) : Int), .slice x3 y3 t3, .int .i64 ((g.evs.length : Nat) : Int), .slice x4 y4 t4, .int .i64 ((g.evs.length : Nat) : Int), .slice x5 y5 t5, .int .i64 ((g.evs.length : Nat) : Int), .slice x6 y6 t6, .int .i64 ((g.evs.length : Nat) : Int), .slice x7 y7 t7, .int .i64 ((g.evs.length : Nat) : Int), .slice x8 y8 t8, .int .i64 ((g.evs.length : Nat) : Int), .slice x9 y9 t9, .int .i64 ((g.evs.length : Nat) : Int), .slice x10 y10 t10] = W3 at *
 generalize w2.heap.size = db at *
 clear hBz
 simp only [Act.put]
 have hHl : (hbL g (LG g)).length = g.evs.length := HS2.out.wf.len
 have HHL := Qa hHl
 clear hHl
 have HIN : Hid (Qet g = Qhd (hbL g (LG g)) (Qdv (LG g))) := rfl
 have HSQ : Hid (Qit g = Qan [Qgi g (LG g) (hbL g (LG g)), Qir g (hbL g (LG g)) (Qdv (LG g))]) := rfl
 generalize Qgi g (LG g) (hbL g (LG g)) = Bs at *
 generalize Qir g (hbL g (LG g)) (Qdv (LG g)) = Ps at *
 generalize hbL g (LG g) = Hb at *
 generalize Qdv (LG g) = Ec at *
 go_wp2_with fail
 go_loopg [8] g.evs.length (fun f i wr => ∃ k : Nat, i = .int .i64 ((k : Nat) : Int) ∧ k ≤ g.evs.length ∧ Hid (k + f = g.evs.length) ∧ Hid (∀ a, a < k → Qd5 Hb Ec Hb.length a = []) ∧ wr = W3)
 case atStart => exact ⟨0, rfl, Nat.zero_le _, Nat.zero_add _, fun a ha => absurd ha (by omega), rfl⟩
 case round =>
  obtain ⟨k, rfl, hk, HKF, HA, rfl⟩ := hrel
  have c0 : wr.cell? ⟨w.heap.size, 1, none⟩ = some (.slice p1 g.evs.length k1) := HG.out.cell rfl
  by_cases hlt : k < g.evs.length
  ·have c5 : wr.cell? ⟨db, 5, none⟩ = some (.slice x2 y2 t2) := HD.out.cell rfl
   obtain ⟨s, r, hx2, hy2, q1, q2⟩ := HS2.out.at_ hlt hlt
   subst hx2 hy2
   have K0 : (0 : Int) ≤ ((k : Nat) : Int) := by omega
   have K1 : ((k : Nat) : Int) < ((g.evs.length : Nat) : Int) := by omega
   obtain ⟨bk, hbk⟩ : ∃ b, Qbt Hb ((k : Nat) : Int) ((k : Nat) : Int) = b := ⟨_, rfl⟩
   rw [hbk] at q2
   have HBK := Qa hbk
   clear hbk
   cases bk
   ·go_upto_region 10 with fail
    go_wp2_with fail
    go_loopg [9] g.evs.length (fun f i wr2 => ∃ m : Nat, i = .int .i64 ((m : Nat) : Int) ∧ m ≤ g.evs.length ∧ Hid (m + f = g.evs.length) ∧ Hid (∀ b, b < m → Qd4 Hb Ec k b = []) ∧ wr2 = wr)
    case atStart => exact ⟨0, rfl, Nat.zero_le _, Nat.zero_add _, fun a ha => absurd ha (by omega), rfl⟩
    case round =>
     obtain ⟨m, rfl, hm, HMF, HBM, rfl⟩ := hrel
     by_cases hml : m < g.evs.length
     ·obtain ⟨s', r', e1, -, q3, q4⟩ := HS2.out.at_ hlt hml
      cases e1
      obtain rfl : r = r' := by
       have := q1.symm.trans q3
       simpa using this
      have d7 : wr.cell? ⟨db, 7, none⟩ = some (.slice x3 y3 t3) := HD.out.cell rfl
      obtain ⟨s3, r3, hx3, hy3, q5, q6⟩ := HS3.out.at_ hml hlt
      subst hx3 hy3
      have M0 : (0 : Int) ≤ ((m : Nat) : Int) := by omega
      have M1 : ((m : Nat) : Int) < ((g.evs.length : Nat) : Int) := by omega
      obtain ⟨b1, hb1⟩ : ∃ b, Qbt Hb ((k : Nat) : Int) ((m : Nat) : Int) = b := ⟨_, rfl⟩
      obtain ⟨b2, hb2⟩ : ∃ b, Qbt Ec ((m : Nat) : Int) ((k : Nat) : Int) = b := ⟨_, rfl⟩
      rw [hb1] at q4
      rw [hb2] at q6
      have H1 := Qa hb1
      have H2 := Qa hb2
      clear hb1 hb2 q3
      cases b1
      ·go_wp2_with fail
       go_roundg (g.evs.length - (m + 1))
       case measure => have := HMF.out; omega
       case rel => exact ⟨m + 1, by go_num, by omega, by have := HMF.out; rw [Hid]; omega, Qia HBM.out (by unfold Qd4; rw [H1.out]; rfl), rfl⟩
      ·cases b2
       ·go_wp2_with fail
        go_roundg (g.evs.length - (m + 1))
        case measure => have := HMF.out; omega
        case rel => exact ⟨m + 1, by go_num, by omega, by have := HMF.out; rw [Hid]; omega, Qia HBM.out (by unfold Qd4; rw [H1.out, H2.out]; rfl), rfl⟩
       ·go_wp2_with fail
        go_ret3
        refine ⟨1, [((k : Nat) : Int), ((m : Nat) : Int)], 0, _, rfl, Qq1 (Blk.new wr _ _) HB2.out.size, RefAns.one HC.out ?_ (by simp), HB2.out.alloc HB2.out.size _⟩
        have e0 : Qd4 Hb Ec k m = [((k : Nat) : Int), ((m : Nat) : Int)] := by unfold Qd4; rw [H1.out, H2.out]; rfl
        have e1 : Qd5 Hb Ec Hb.length k = [((k : Nat) : Int), ((m : Nat) : Int)] := by
         unfold Qd5
         rw [HBK.out, if_neg (by decide), ← e0]
         exact Qc3 HBM.out (by rw [e0]; simp) (by rw [HHL.out]; exact hml)
        rw [HIN.out, ← e1]
        exact Qc3 HA.out (by rw [e1]; simp) (by rw [HHL.out]; exact hlt)
     ·have e1 : Qd5 Hb Ec Hb.length k = [] := by
       unfold Qd5
       rw [HBK.out, if_neg (by decide)]
       exact Qdq (fun b hb => HBM.out b (by rw [HHL.out] at hb; omega))
      have HE := Qa e1
      clear e1
      go_wp2_with fail
      go_roundg (g.evs.length - (k + 1))
      case measure => have := HKF.out; omega
      case rel => exact ⟨k + 1, by go_num, by omega, by have := HKF.out; rw [Hid]; omega, Qia HA.out HE.out, rfl⟩
   ·go_wp2_with fail
    go_ret3
    refine ⟨1, [((k : Nat) : Int)], 0, _, rfl, Qq0 (Blk.new wr _ _) HB2.out.size, RefAns.one HC.out ?_ (by simp), HB2.out.alloc HB2.out.size _⟩
    have e1 : Qd5 Hb Ec Hb.length k = [((k : Nat) : Int)] := by unfold Qd5; rw [HBK.out]; rfl
    rw [HIN.out, ← e1]
    exact Qc3 HA.out (by rw [e1]; simp) (by rw [HHL.out]; exact hlt)
  ·have hin : Qet g = [] := by
    rw [HIN.out]
    exact Qdq (fun a ha => HA.out a (by rw [HHL.out] at ha; omega))
   have HI := Qa hin
   clear hin HIN HHL HKF HA HS2 HS3
   have d18 : wr.cell? ⟨db, 18, none⟩ = some (.int .i64 ((g.evs.length : Nat) : Int)) := HD.out.cell rfl
   have d19 : wr.cell? ⟨db, 19, none⟩ = some (.slice x9 y9 t9) := HD.out.cell rfl
   have d20 : wr.cell? ⟨db, 20, none⟩ = some (.int .i64 ((g.evs.length : Nat) : Int)) := HD.out.cell rfl
   have d21 : wr.cell? ⟨db, 21, none⟩ = some (.slice x10 y10 t10) := HD.out.cell rfl
   go_wp2_with fail
   refine (Qyl hn HS10.out HS9.out).mono ?_
   rintro e w4 ⟨r4, rfl, hR4, hB4⟩
   obtain ⟨xa, ya, ta, rfl⟩ := hR4.form
   clear d18 d19 d20 d21
   have hlow4 := Qaa HB2.out HB2.out.size hB4
   have hgx4 := HG.out.of_below hB4
   have hdx4 := HD.out.of_below hB4
   have hs5 := HS5.out.below hB4
   have hs6 := HS6.out.below hB4
   have hs7 := HS7.out.below hB4
   have hs8 := HS8.out.below hB4
   have hBc : Below w4.heap.size w4 (w4.alloc (.cells #[.int .i64 ((g.evs.length : Nat) : Int), .slice xa ya ta] 52)) := (Below.refl _ _).alloc (Nat.le_refl _) _
   have HB5 := Qa (Qaa hlow4 hlow4.size hBc)
   have HG5 := Qa (hgx4.of_below hBc)
   have HD5 := Qa (hdx4.of_below hBc)
   have HS55 := Qa (hs5.below hBc)
   have HS65 := Qa (hs6.below hBc)
   have HS75 := Qa (hs7.below hBc)
   have HS85 := Qa (hs8.below hBc)
   have HR5 := Qa (hR4.below hBc)
   have HX5 := Qa (Blk.new w4 52 #[.int .i64 ((g.evs.length : Nat) : Int), .slice xa ya ta])
   clear hlow4 hgx4 hdx4 hs5 hs6 hs7 hs8 hBc hR4 hB4 HB2 HG HD HS5 HS6 HS7 HS8 HS9 HS10
   go_wp2_with fail
   have hml : g.rmw.length ≤ 9223372036854775807 := by obtain ⟨_, _, _, _, h9⟩ := Qab H.out.rmw; exact h9
   generalize hW5 : w4.alloc (.cells #[.int .i64 ((g.evs.length : Nat) : Int), .slice xa ya ta] 52) = W5 at *
   generalize w4.heap.size = cb at *
   clear hW5
   have HT : Hid (Qgb g = Qj1 (Qbf (LG g 3) (LG g 2)) g.rmw) := rfl
   generalize Qbf (LG g 3) (LG g 2) = Fc at *
   go_loopg [11] g.rmw.length (fun f i wr => ∃ k : Nat, i = .int .i64 ((k : Nat) : Int) ∧ k ≤ g.rmw.length ∧ Hid (k + f = g.rmw.length) ∧ Hid (∀ a, a < k → Qif Fc g.rmw a = []) ∧ Hid (Below W5.heap.size W5 wr))
   case atStart => exact ⟨0, rfl, Nat.zero_le _, Nat.zero_add _, fun a ha => absurd ha (by omega), Below.refl _ _⟩
   case round =>
    obtain ⟨k2, rfl, hk2, HKF, HA, HW5⟩ := hrel
    have c4 : wr.cell? ⟨w.heap.size, 4, none⟩ = some (.slice pm g.rmw.length km) := (HG5.out.of_below HW5.out).cell rfl
    by_cases hlt2 : k2 < g.rmw.length
    ·obtain ⟨sp, op, rfl, hpa⟩ : ∃ s o, pm = some ⟨s, o, none⟩ ∧ PairsAt w s o g.rmw := by
      obtain ⟨p, cap, e, h9, _⟩ := Qab H.out.rmw
      obtain ⟨s, o, e2, h8⟩ := h9 (by omega)
      cases e
      exact ⟨s, o, e2, h8⟩
     obtain ⟨a1, b1, hab, ha1, hb1⟩ := QFi HW.out hlt2
     have hlw := Qaa HB5.out HB5.out.size HW5.out
     have g1 := ((hpa.below hlw).fst k2 _ hab)
     have g2 := ((hpa.below hlw).snd k2 _ hab)
     dsimp only at g1 g2
     have c1 : wr.cell? ⟨cb, 1, none⟩ = some (.slice xa ya ta) := (HX5.out.of_below HW5.out).cell rfl
     obtain ⟨s, r, hxa, hya, q1, q2⟩ := (HR5.out.below HW5.out).at_ ha1 hb1
     subst hxa hya
     have K0 : (0 : Int) ≤ ((k2 : Nat) : Int) := by omega
     have K1 : ((k2 : Nat) : Int) < ((g.rmw.length : Nat) : Int) := by omega
     have A0 : (0 : Int) ≤ ((a1 : Nat) : Int) := by omega
     have A1 : ((a1 : Nat) : Int) < ((g.evs.length : Nat) : Int) := by omega
     have B0 : (0 : Int) ≤ ((b1 : Nat) : Int) := by omega
     have B1 : ((b1 : Nat) : Int) < ((g.evs.length : Nat) : Int) := by omega
     obtain ⟨bt, hbt⟩ : ∃ b, Qbt Fc ((a1 : Nat) : Int) ((b1 : Nat) : Int) = b := ⟨_, rfl⟩
     rw [hbt] at q2
     have HBT := Qa hbt
     have HAB := Qa hab
     have HLW := Qa hlw
     clear hbt hab hpa hlw ha1 hb1
     have HTA : Hid (Qif Fc g.rmw k2 = if bt then [((a1 : Nat) : Int), ((b1 : Nat) : Int)] else []) := by
      rw [Hid]
      unfold Qif Qj0
      rw [List.getD_eq_getElem?_getD, HAB.out]
      show (if Qbt Fc ((a1 : Nat) : Int) ((b1 : Nat) : Int) = true then _ else _) = _
      rw [HBT.out]
      rfl
     cases bt
     ·go_upto_region 19 with fail
      go_quiet (fail)
      go_wp2_with fail
      go_roundg (g.rmw.length - (k2 + 1))
      case measure => have := HKF.out; omega
      case rel => exact ⟨k2 + 1, by go_num, by omega, by have := HKF.out; rw [Hid]; omega, Qia HA.out (by rw [HTA.out]; rfl), Qac HW5.out _⟩
     ·go_upto_region 19 with fail
      go_quiet (fail)
      go_upto_region 20 with fail
      have c4' : (wr.drewN nq).cell? ⟨w.heap.size, 4, none⟩ = some (.slice (some ⟨sp, op, none⟩) g.rmw.length km) := c4
      have g1' : (wr.drewN nq).cell? ⟨sp, op + k2 * 2, none⟩ = some (.int .i64 ((a1 : Nat) : Int)) := g1
      have g2' : (wr.drewN nq).cell? ⟨sp, op + k2 * 2 + 1, none⟩ = some (.int .i64 ((b1 : Nat) : Int)) := g2
      have HLX := Qa (Qac HLW.out nq)
      clear c4 g1 g2 c1 q1 q2
      generalize wr.drewN nq = wx at *
      go_region
      all_goals
       go_wp2_with fail
       go_ret3
       refine ⟨2, [((a1 : Nat) : Int), ((b1 : Nat) : Int)], 0, _, rfl, Qq1 (Blk.new _ _ _) HLX.out.size, RefAns.two HC.out HI.out ?_ (by simp), HLX.out.drew.alloc HLX.out.size _⟩
       rw [HT.out, show [((a1 : Nat) : Int), ((b1 : Nat) : Int)] = Qif Fc g.rmw k2 from by rw [HTA.out]; rfl]
       exact Qc3 HA.out (by rw [HTA.out]; simp) hlt2
    ·have ht : Qgb g = [] := by
      rw [HT.out]
      exact Qdq (fun a ha => HA.out a (by omega))
     have HT0 := Qa ht
     have HLW := Qa (Qaa HB5.out HB5.out.size HW5.out)
     have HDW := Qa (HD5.out.of_below HW5.out)
     have HS5W := Qa (HS55.out.below HW5.out)
     have HS6W := Qa (HS65.out.below HW5.out)
     have HS7W := Qa (HS75.out.below HW5.out)
     have HS8W := Qa (HS85.out.below HW5.out)
     clear ht HT HKF HA HW5 HB5 HG5 HD5 HS55 HS65 HS75 HS85 HR5 HX5
     have d10 : wr.cell? ⟨db, 10, none⟩ = some (.int .i64 ((g.evs.length : Nat) : Int)) := HDW.out.cell rfl
     have d11 : wr.cell? ⟨db, 11, none⟩ = some (.slice x5 y5 t5) := HDW.out.cell rfl
     have d12 : wr.cell? ⟨db, 12, none⟩ = some (.int .i64 ((g.evs.length : Nat) : Int)) := HDW.out.cell rfl
     have d13 : wr.cell? ⟨db, 13, none⟩ = some (.slice x6 y6 t6) := HDW.out.cell rfl
     go_wp2_with fail
     refine (Qoo hn HS5W.out HS6W.out).mono ?_
     rintro e w6 ⟨r6, rfl, hR6, hB6⟩
     obtain ⟨xb, yb, tb, rfl⟩ := hR6.form
     have HR6 := Qa hR6
     have hl6 := Qaa HLW.out HLW.out.size hB6
     have hd6 := HDW.out.of_below hB6
     have hs7 := HS7W.out.below hB6
     have hs8 := HS8W.out.below hB6
     clear hR6 hB6 HLW HDW HS5W HS6W HS7W HS8W d10 d11 d12 d13
     go_wp2_with fail
     refine (Qu0 hn HR6.out).mono ?_
     rintro e w7 ⟨v7, out, rfl, hO, hown, hB7⟩
     obtain ⟨oa, ocap, rfl⟩ := Qaq hown
     have HSZ6 : Hid (w.heap.size ≤ w6.heap.size) := hl6.size
     have HL7 := Qa (Qaa hl6 hl6.size hB7)
     have HD7 := Qa (hd6.of_below hB7)
     have HS7 := Qa (hs7.below hB7)
     have HS8 := Qa (hs8.below hB7)
     have HO := Qa hO
     have HOW := Qa hown
     clear hl6 hd6 hs7 hs8 hO hown hB7 HR6
     by_cases ho : 0 < out.length
     ·go_wp2_with fail
      go_ret3
      have hin := Qu3 HSZ6.out HOW.out
      exact ⟨3, upI out, 0, _, rfl, hin, RefAns.three HC.out HI.out HT0.out (fun o2 h => HO.out o2 (by rw [HSQ.out] at h; exact h)) (fun e => by rw [e] at ho; simp at ho), HL7.out⟩
     ·have d14 : w7.cell? ⟨db, 14, none⟩ = some (.int .i64 ((g.evs.length : Nat) : Int)) := HD7.out.cell rfl
      have d15 : w7.cell? ⟨db, 15, none⟩ = some (.slice x7 y7 t7) := HD7.out.cell rfl
      have d16 : w7.cell? ⟨db, 16, none⟩ = some (.int .i64 ((g.evs.length : Nat) : Int)) := HD7.out.cell rfl
      have d17 : w7.cell? ⟨db, 17, none⟩ = some (.slice x8 y8 t8) := HD7.out.cell rfl
      go_wp2_with fail
      refine (Qoo hn HS7.out HS8.out).mono ?_
      rintro e w8 ⟨r8, rfl, hR8, hB8⟩
      obtain ⟨xc, yc, tc, rfl⟩ := hR8.form
      have HR8 := Qa hR8
      have HL8 := Qa (Qaa HL7.out HL7.out.size hB8)
      clear hR8 hB8 HL7 HD7 HS7 HS8 d14 d15 d16 d17 HOW
      go_wp2_with fail
      refine (Qu0 hn HR8.out).mono ?_
      rintro e w9 ⟨v9, ouu, rfl, hO2, hown2, hB9⟩
      obtain ⟨ob, ocap2, rfl⟩ := Qaq hown2
      have HSZ8 : Hid (w.heap.size ≤ w8.heap.size) := HL8.out.size
      have HL9 := Qa (Qaa HL8.out HL8.out.size hB9)
      have HO2 := Qa hO2
      have HOW2 := Qa hown2
      clear hO2 hown2 hB9 HL8 HR8
      have hf := RefAns.four HC.out HI.out HT0.out (fun o2 h => HO.out o2 (by rw [HSQ.out] at h; exact h)) (List.eq_nil_of_length_eq_zero (by omega)) HO2.out
      have HF := Qa hf
      clear hf
      by_cases ho2 : 0 < ouu.length
      ·go_wp2_with fail
       go_ret3
       have hin := Qu3 HSZ8.out HOW2.out
       have hF := HF.out
       rw [if_neg (fun e => by rw [e] at ho2; simp at ho2)] at hF
       exact ⟨4, upI ouu, 0, _, rfl, hin, hF, HL9.out⟩
      ·go_wp2_with fail
       go_ret3
       have hF := HF.out
       have e0 : ouu = [] := List.eq_nil_of_length_eq_zero (by omega)
       rw [if_pos e0, e0] at hF
       exact ⟨0, [], 0, _, rfl, World.ownsRow_nil _ _ _ _, hF, HL9.out⟩
end Go.Proofs.YthjjciimbfpokaaGreatDoor
