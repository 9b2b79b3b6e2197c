import Derived.Test.YtdkogbfamdnheaaGreatDoorJ13
namespace Go.Proofs.YtdkogbfamdnheaaGreatDoor
open Go.RowKit Go.Shelf Sx
set_option maxRecDepth 100000
set_option maxHeartbeats 16000000
set_option linter.unusedSimpArgs false
set_option linter.unusedVariables false
def Qaj (G F0 : Nat → Nat → Bool) (m a b : Nat) : Nat → Nat → Bool := fun x y => if (x < a ∧ y < m) ∨ (x = a ∧ y < b) then G x y else F0 x y
theorem Qct (G F0 : Nat → Nat → Bool) (m : Nat) : Qaj G F0 m 0 0 = F0 := by
 funext x y
 unfold Qaj
 rw [if_neg oW]
theorem Qd2 (G F0 : Nat → Nat → Bool) {m a b : Nat} : upd (Qaj G F0 m a b) a b (G a b) = Qaj G F0 m a (b + 1) := by
 funext x y
 unfold upd Qaj
 by_cases h : x = a ∧ y = b
 ·obtain ⟨rfl, rfl⟩ := h
  rw [if_pos ⟨rfl, rfl⟩, if_pos oW]
 ·rw [if_neg h]
  by_cases h2 : (x < a ∧ y < m) ∨ (x = a ∧ y < b)
  ·rw [if_pos h2, if_pos oW]
  ·rw [if_neg h2, if_neg oW]
theorem Qdb (G F0 : Nat → Nat → Bool) (m a : Nat) : Qaj G F0 m a m = Qaj G F0 m (a + 1) 0 := by
 funext x y
 unfold Qaj
 by_cases h : (x < a ∧ y < m) ∨ (x = a ∧ y < m)
 ·rw [if_pos h, if_pos oW]
 ·rw [if_neg h, if_neg oW]
theorem Qi (G F0 : Nat → Nat → Bool) (m a b : Nat) : Qaj G F0 m a b a b = F0 a b := by
 unfold Qaj
 rw [if_neg oW]
theorem Qvj (n : Nat) (x : Option Addr) (y z : Nat) (a : Int) (w : World) :
  Calls Tryz.prog 144 #[.agg #[.int .i64 ((n : Nat) : Int), .slice x y z], .int .i64 a] w fun e w' => e = .returned (.bool (inR n a)) ∧ Below w.heap.size w w' := by
 have hB : ∀ o, Below w.heap.size w (w.alloc o) := fun o => bW.alloc nW _
 by_cases h1 : 0 ≤ a
 ·have hd : inR n a = decide (a < (n : Int)) := by unfold inR; simp [h1]
  rw [hd]
  clear hd
  go_enter Tryz.func144, Tryz.ntmps144
  go_wp2_with fail
  go_ret
  exact ⟨rfl, hB _⟩
 ·have hd : inR n a = false := by unfold inR; simp [h1]
  rw [hd]
  clear hd
  go_enter Tryz.func144, Tryz.ntmps144
  go_wp2_with fail
  go_ret
  exact ⟨rfl, hB _⟩
theorem Qfl (v : Bool) (n : Nat) (x : Option Addr) (y z : Nat) (a : Int) (w : World) (h : inR n a = v) :
  Calls Tryz.prog 144 #[.agg #[.int .i64 ((n : Nat) : Int), .slice x y z], .int .i64 a] w fun e w' => e = .returned (.bool v) ∧ Below w.heap.size w w' := by
 subst h
 exact Qvj n x y z a w
def Qia (n : Nat) (F : Nat → Nat → Bool) (a b : Int) : Bool := inR n a && (inR n b && F a.toNat b.toNat)
theorem Qlo (lo n : Nat) (x : Option Addr) (y z : Nat) (rb : Nat → Nat) (F : Nat → Nat → Bool) (a b : Int) (w : World) (h : RefM lo w (.slice x y z) n n rb F) :
  Calls Tryz.prog 106 #[.agg #[.int .i64 ((n : Nat) : Int), .slice x y z], .int .i64 a, .int .i64 b] w fun e w' => e = .returned (.bool (Qia n F a b)) ∧ Below w.heap.size w w' := by
 have hB0 : Below w.heap.size w (w.alloc (.cells #[.int .i64 (n : Int), .slice x y z] 51)) := bW.alloc nW _
 have hb0 := Blk.new w 51 #[.int .i64 (n : Int), .slice x y z]
 cases hx : inR n a
 ·have e : Qia n F a b = false := by unfold Qia; rw [hx]; rfl
  rw [e]
  clear e
  go_enter Tryz.func106, Tryz.ntmps106
  go_wp2_with fail
  refine (Qfl false n x y z a _ hx).mono ?_
  rintro e w1 ⟨rfl, hB1⟩
  go_wp2_with fail
  go_ret
  exact ⟨rfl, Qaa hB0 hB0.size hB1⟩
 ·cases hy : inR n b
  ·have e : Qia n F a b = false := by unfold Qia; rw [hx, hy]; rfl
   rw [e]
   clear e
   go_enter Tryz.func106, Tryz.ntmps106
   go_wp2_with fail
   refine (Qfl true n x y z a _ hx).mono ?_
   rintro e w1 ⟨rfl, hB1⟩
   have hb1 := hb0.of_below hB1
   have c0 := hb1.cell (j := 0) rfl
   have c1 := hb1.cell (j := 1) rfl
   go_wp2_with fail
   refine (Qfl false n x y z b _ hy).mono ?_
   rintro e w2 ⟨rfl, hB2⟩
   go_wp2_with fail
   go_ret
   exact ⟨rfl, Qaa (Qaa hB0 hB0.size hB1) (Qaa hB0 hB0.size hB1).size hB2⟩
  ·have e : Qia n F a b = F a.toNat b.toNat := by unfold Qia; rw [hx, hy]; rfl
   rw [e]
   clear e
   have ha : 0 ≤ a ∧ a < (n : Int) := by unfold inR at hx; simpa using hx
   have hbb : 0 ≤ b ∧ b < (n : Int) := by unfold inR at hy; simpa using hy
   obtain ⟨p, rfl⟩ : ∃ p : Nat, a = ((p : Nat) : Int) := ⟨a.toNat, oW⟩
   obtain ⟨q, rfl⟩ : ∃ q : Nat, b = ((q : Nat) : Int) := ⟨b.toNat, oW⟩
   have hp : p < n := by omega
   have hq : q < n := by omega
   rw [Int.toNat_natCast, Int.toNat_natCast]
   go_enter Tryz.func106, Tryz.ntmps106
   go_wp2_with fail
   refine (Qfl true n x y z _ _ hx).mono ?_
   rintro e w1 ⟨rfl, hB1⟩
   have hb1 := hb0.of_below hB1
   have c0 := hb1.cell (j := 0) rfl
   have c1 := hb1.cell (j := 1) rfl
   go_wp2_with fail
   refine (Qfl true n x y z _ _ hy).mono ?_
   rintro e w2 ⟨rfl, hB2⟩
   have hb2 := hb1.of_below hB2
   clear c0 c1
   have hB3 := Qaa (Qaa hB0 hB0.size hB1) (Qaa hB0 hB0.size hB1).size hB2
   obtain ⟨g, cap, e, _, _, _, d0, d1, _, _⟩ := (h.below hB3).at_ hp hq
   cases e
   have c1 := hb2.cell (j := 1) rfl
   clear ha hbb
   go_wp2_with fail
   go_ret
   exact ⟨rfl, hB3⟩
structure WideAt (w W : World) (B n N : Nat) (Mr Mw : Value) (rw_ : Nat → Nat) (F : Nat → Nat → Bool) : Prop where
 below : Below w.heap.size w W
 old : Blk W w.heap.size 51 #[.int .i64 ((n : Nat) : Int), Mr]
 res : Blk W (w.heap.size + 1) 51 #[.int .i64 0, .slice none 0 0]
 box : Blk W B 51 #[.int .i64 ((N : Nat) : Int), Mw]
 ref : RefM (w.heap.size + 2) W Mw N N rw_ F
 far : ∀ p, p < N → rw_ p ≠ B
 hB : w.heap.size + 2 ≤ B
theorem WideAt.put {w W : World} {B n N : Nat} {Mr Mw : Value} {rw_ : Nat → Nat} {F : Nat → Nat → Bool} (h : WideAt w W B n N Mr Mw rw_ F) {p q : Nat} (hp : p < N) (hq : q < N) (b : Bool) : WideAt w (W.setCell ⟨rw_ p, q, none⟩ (.bool b)) B n N Mr Mw rw_ (upd F p q b) := by
 have hr := (h.ref.row p hp).1
 exact ⟨h.below.setCell (by simp; omega) _, h.old.setOther (by simp; omega) _, h.res.setOther (by simp; omega) _, h.box.setOther (fun e => h.far p hp e.symm) _, h.ref.put hp hq b, h.far, h.hB⟩
theorem WideAt.drew {w W : World} {B n N : Nat} {Mr Mw : Value} {rw_ : Nat → Nat} {F : Nat → Nat → Bool} (h : WideAt w W B n N Mr Mw rw_ F) : WideAt w W.drew B n N Mr Mw rw_ F :=
 ⟨h.below.drew, h.old, h.res, h.box, h.ref.drew, h.far, h.hB⟩
theorem Qe8 (lo n : Nat) (hn : n ≤ 256) (x : Option Addr) (y z : Nat) (rb : Nat → Nat) (F : Nat → Nat → Bool) (m N : Nat) (hm : m ≤ 256) (HN : Hid (N = max n m)) (w : World) (h : RefM lo w (.slice x y z) n n rb F) :
  Calls Tryz.prog 105 #[.agg #[.int .i64 ((n : Nat) : Int), .slice x y z], .int .i64 ((m : Nat) : Int)] w fun e w' => ∃ M rb', e = .returned (.agg #[.int .i64 ((N : Nat) : Int), M]) ∧ RefM w.heap.size w' M N N rb' (Qaj F (fun _ _ => false) n n 0) ∧ Below w.heap.size w w' := by
 have hN : N ≤ 256 := by have := HN.out; omega
 have hnN : n ≤ N := by have := HN.out; omega
 go_enter Tryz.func105, Tryz.ntmps105
 by_cases hmn : m < n
 ·have e : N = n := by have := HN.out; omega
  subst e
  go_wp2_with fail
  refine (Qd N hN _).mono ?_
  rintro e w1 ⟨M, rbw, rfl, hRM, hB1⟩
  obtain ⟨x2, y2, z2, rfl⟩ := hRM.slice
  have hs1 : w.heap.size + 2 ≤ w1.heap.size := by have := hB1.size; simpa using this
  have hA : WideAt w (w1.alloc (.cells #[.int .i64 ((N : Nat) : Int), .slice x2 y2 z2] 51)) w1.heap.size N N (.slice x y z) (.slice x2 y2 z2) rbw (Qaj F (fun _ _ => false) N 0 0) := by
   refine ⟨?_, ?_, ?_, Blk.new _ _ _, ?_, fun p hp => ?_, hs1⟩
   ·exact ((((Below.refl _ w).alloc nW _).alloc sW _).trans (hB1.mono (by simp; omega))).alloc oW _
   ·exact (((Blk.new w _ _).alloc _).of_below hB1).alloc _
   ·exact ((Blk.new2 w _ _ _).of_below hB1).alloc _
   ·rw [Qct]
    exact (hRM.mono sW).alloc _
   ·have := (hRM.row p hp).2.lt
    omega
  clear hRM hB1
  go_wp2_with fail
  generalize w1.heap.size = B at *
  go_loopw [6] (fun i wr => ∃ a, a ≤ N ∧ i = .int .i64 ((a : Nat) : Int) ∧ WideAt w wr B N N (.slice x y z) (.slice x2 y2 z2) rbw (Qaj F (fun _ _ => false) N a 0)) (fun i _ => N - (intOf i).toNat)
  case atStart => exact ⟨0, oW, rfl, hA⟩
  case round =>
   clear hA
   obtain ⟨a, ha, rfl, hA⟩ := hrel
   have c0 := hA.old.cell (j := 0) rfl
   by_cases hlt : a < N
   ·go_wp2_with fail
    clear c0
    go_loopw [7] (fun i wr => ∃ b, b ≤ N ∧ i = .int .i64 ((b : Nat) : Int) ∧ WideAt w wr B N N (.slice x y z) (.slice x2 y2 z2) rbw (Qaj F (fun _ _ => false) N a b)) (fun i _ => N - (intOf i).toNat)
    case atStart => exact ⟨0, oW, rfl, hA⟩
    case round =>
     clear hA
     obtain ⟨b, hb, rfl, hA⟩ := hrel
     have c0 := hA.old.cell (j := 0) rfl
     by_cases hlt2 : b < N
     ·have c1 := hA.old.cell (j := 1) rfl
      have d1 := hA.box.cell (j := 1) rfl
      obtain ⟨g1, cap1, e1, q1, _, _, r0, r1, _, _⟩ := (h.below hA.below).at_ hlt hlt2
      obtain ⟨g2, cap2, e2, q2, _, n2, s0, s1, fz, q3⟩ := hA.ref.at_ (p := a) (q := b) oW oW
      cases e1
      cases e2
      have hA2 := hA.drew.put (p := a) (q := b) oW oW (F a b)
      rw [Qd2] at hA2
      go_wp2_with fail
      go_region
      all_goals
       go_wp2_with fail
       refine ⟨⟨b + 1, oW, by go_num, hA2⟩, by simp [intOf]; omega⟩
     ·have e : N = b := by omega
      subst e
      rw [Qdb] at hA
      go_wp2_with fail
      refine ⟨⟨a + 1, oW, by go_num, hA⟩, by simp [intOf]; omega⟩
   ·have e : N = a := by omega
    subst e
    have b0 := hA.box.cell (j := 0) rfl
    have b1 := hA.box.cell (j := 1) rfl
    have d0 := hA.res.cell (j := 0) rfl
    have d1 := hA.res.cell (j := 1) rfl
    have f0 := hA.res.frozen 0
    have f1 := hA.res.frozen 1
    go_wp2_with fail
    have hres := (hA.res.set 0 (.int .i64 (N : Int))).set 1 (.slice x2 y2 z2)
    simp only [List.setIfInBounds_toArray, List.set_cons_zero, List.set_cons_succ] at hres
    (try simp only [Exit.inBlock, Exit.then])
    refine bodyPost_ret (Qbr rfl rfl hres) rfl ?_
    have hA1 : RefM w.heap.size _ (.slice x2 y2 z2) N N rbw _ := RefM.mono (hA.ref.below' fun g hg _ => show (((_ : World).setCell ⟨w.heap.size + 1, 0, none⟩ (.int .i64 ((N : Nat) : Int))).setCell ⟨w.heap.size + 1, 1, none⟩ (.slice x2 y2 z2)).heap[g]? = _ by rw [Below.heap_setCell _ _ _ _ (by simp; omega), Below.heap_setCell _ _ _ _ (by simp; omega)]) oW
    have hB1 := (hA.below.setCell (p := ⟨w.heap.size + 1, 0, none⟩) sW (.int .i64 (N : Int))).setCell (p := ⟨w.heap.size + 1, 1, none⟩) sW (.slice x2 y2 z2)
    first | exact ⟨_, rbw, rfl, hA1, hB1⟩ | exact ⟨_, rfl, ⟨rbw, hA1⟩, hB1⟩
 ·have e : N = m := by have := HN.out; omega
  subst e
  go_wp2_with fail
  refine (Qd N hN _).mono ?_
  rintro e w1 ⟨M, rbw, rfl, hRM, hB1⟩
  obtain ⟨x2, y2, z2, rfl⟩ := hRM.slice
  have hs1 : w.heap.size + 2 ≤ w1.heap.size := by have := hB1.size; simpa using this
  have hA : WideAt w (w1.alloc (.cells #[.int .i64 ((N : Nat) : Int), .slice x2 y2 z2] 51)) w1.heap.size n N (.slice x y z) (.slice x2 y2 z2) rbw (Qaj F (fun _ _ => false) n 0 0) := by
   refine ⟨?_, ?_, ?_, Blk.new _ _ _, ?_, fun p hp => ?_, hs1⟩
   ·exact ((((Below.refl _ w).alloc nW _).alloc sW _).trans (hB1.mono (by simp; omega))).alloc oW _
   ·exact (((Blk.new w _ _).alloc _).of_below hB1).alloc _
   ·exact ((Blk.new2 w _ _ _).of_below hB1).alloc _
   ·rw [Qct]
    exact (hRM.mono sW).alloc _
   ·have := (hRM.row p hp).2.lt
    omega
  clear hRM hB1
  go_wp2_with fail
  generalize w1.heap.size = B at *
  go_loopw [6] (fun i wr => ∃ a, a ≤ n ∧ i = .int .i64 ((a : Nat) : Int) ∧ WideAt w wr B n N (.slice x y z) (.slice x2 y2 z2) rbw (Qaj F (fun _ _ => false) n a 0)) (fun i _ => n - (intOf i).toNat)
  case atStart => exact ⟨0, oW, rfl, hA⟩
  case round =>
   clear hA
   obtain ⟨a, ha, rfl, hA⟩ := hrel
   have c0 := hA.old.cell (j := 0) rfl
   by_cases hlt : a < n
   ·go_wp2_with fail
    clear c0
    go_loopw [7] (fun i wr => ∃ b, b ≤ n ∧ i = .int .i64 ((b : Nat) : Int) ∧ WideAt w wr B n N (.slice x y z) (.slice x2 y2 z2) rbw (Qaj F (fun _ _ => false) n a b)) (fun i _ => n - (intOf i).toNat)
    case atStart => exact ⟨0, oW, rfl, hA⟩
    case round =>
     clear hA
     obtain ⟨b, hb, rfl, hA⟩ := hrel
     have c0 := hA.old.cell (j := 0) rfl
     by_cases hlt2 : b < n
     ·have c1 := hA.old.cell (j := 1) rfl
      have d1 := hA.box.cell (j := 1) rfl
      obtain ⟨g1, cap1, e1, q1, _, _, r0, r1, _, _⟩ := (h.below hA.below).at_ hlt hlt2
      obtain ⟨g2, cap2, e2, q2, _, n2, s0, s1, fz, q3⟩ := hA.ref.at_ (p := a) (q := b) oW oW
      cases e1
      cases e2
      have hA2 := hA.drew.put (p := a) (q := b) oW oW (F a b)
      rw [Qd2] at hA2
      go_wp2_with fail
      go_region
      all_goals
       go_wp2_with fail
       refine ⟨⟨b + 1, oW, by go_num, hA2⟩, by simp [intOf]; omega⟩
     ·have e : n = b := by omega
      subst e
      rw [Qdb] at hA
      go_wp2_with fail
      refine ⟨⟨a + 1, oW, by go_num, hA⟩, by simp [intOf]; omega⟩
   ·have e : n = a := by omega
    subst e
    have b0 := hA.box.cell (j := 0) rfl
    have b1 := hA.box.cell (j := 1) rfl
    have d0 := hA.res.cell (j := 0) rfl
    have d1 := hA.res.cell (j := 1) rfl
    have f0 := hA.res.frozen 0
    have f1 := hA.res.frozen 1
    go_wp2_with fail
    have hres := (hA.res.set 0 (.int .i64 (N : Int))).set 1 (.slice x2 y2 z2)
    simp only [List.setIfInBounds_toArray, List.set_cons_zero, List.set_cons_succ] at hres
    (try simp only [Exit.inBlock, Exit.then])
    refine bodyPost_ret (Qbr rfl rfl hres) rfl ?_
    have hA1 : RefM w.heap.size _ (.slice x2 y2 z2) N N rbw _ := RefM.mono (hA.ref.below' fun g hg _ => show (((_ : World).setCell ⟨w.heap.size + 1, 0, none⟩ (.int .i64 ((N : Nat) : Int))).setCell ⟨w.heap.size + 1, 1, none⟩ (.slice x2 y2 z2)).heap[g]? = _ by rw [Below.heap_setCell _ _ _ _ (by simp; omega), Below.heap_setCell _ _ _ _ (by simp; omega)]) oW
    have hB1 := (hA.below.setCell (p := ⟨w.heap.size + 1, 0, none⟩) sW (.int .i64 (N : Int))).setCell (p := ⟨w.heap.size + 1, 1, none⟩) sW (.slice x2 y2 z2)
    first | exact ⟨_, rbw, rfl, hA1, hB1⟩ | exact ⟨_, rfl, ⟨rbw, hA1⟩, hB1⟩
structure MkAt (w W : World) (k : Nat) (bs : List (Nat × Array Value)) (B N : Nat) (M : Value) (rb : Nat → Nat) (F : Nat → Nat → Bool) : Prop where
 below : Below w.heap.size w W
 bx : ∀ x ∈ bs, x.1 < k ∧ Blk W (w.heap.size + x.1) 51 x.2
 box : Blk W B 51 #[.int .i64 ((N : Nat) : Int), M]
 ref : RefM (w.heap.size + k) W M N N rb F
 far : ∀ p, p < N → rb p ≠ B
 hB : w.heap.size + k ≤ B
section
variable {w W : World} {k : Nat} {bs : List (Nat × Array Value)} {B N : Nat} {M : Value} {rb : Nat → Nat} {F : Nat → Nat → Bool}
theorem MkAt.put (h : MkAt w W k bs B N M rb F) {p q : Nat} (hp : p < N) (hq : q < N) (b : Bool) : MkAt w (W.setCell ⟨rb p, q, none⟩ (.bool b)) k bs B N M rb (upd F p q b) := by
 have hr := (h.ref.row p hp).1
 exact ⟨h.below.setCell (by simp; omega) _, fun x hx => ⟨(h.bx x hx).1, (h.bx x hx).2.setOther (by have := (h.bx x hx).1; simp; omega) _⟩, h.box.setOther (fun e => h.far p hp e.symm) _, h.ref.put hp hq b, h.far, h.hB⟩
theorem MkAt.step {W' : World} (h : MkAt w W k bs B N M rb F) (hB : Below W.heap.size W W') : MkAt w W' k bs B N M rb F :=
 ⟨Qaa h.below h.below.size hB, fun x hx => ⟨(h.bx x hx).1, (h.bx x hx).2.of_below hB⟩, h.box.of_below hB, h.ref.below hB, h.far, h.hB⟩
theorem MkAt.drew (h : MkAt w W k bs B N M rb F) : MkAt w W.drew k bs B N M rb F := h.step bW.drew
theorem MkAt.congr {G : Nat → Nat → Bool} (h : MkAt w W k bs B N M rb F) (hfg : ∀ p q, p < N → q < N → F p q = G p q) : MkAt w W k bs B N M rb G :=
 ⟨h.below, h.bx, h.box, h.ref.congr hfg, h.far, h.hB⟩
theorem MkAt.fst {i : Nat} {A : Array Value} {l : List (Nat × Array Value)} (h : MkAt w W k ((i, A) :: l) B N M rb F) : Blk W (w.heap.size + i) 51 A := (h.bx (i, A) sW).2
theorem MkAt.snd {x : Nat × Array Value} {i : Nat} {A : Array Value} {l : List (Nat × Array Value)} (h : MkAt w W k (x :: (i, A) :: l) B N M rb F) : Blk W (w.heap.size + i) 51 A := (h.bx (i, A) sW).2
theorem MkAt.trd {x y : Nat × Array Value} {i : Nat} {A : Array Value} {l : List (Nat × Array Value)} (h : MkAt w W k (x :: y :: (i, A) :: l) B N M rb F) : Blk W (w.heap.size + i) 51 A := (h.bx (i, A) sW).2
theorem MkAt.begin {w0 w1 : World} (h0 : Below w.heap.size w w0) (hs : w0.heap.size = w.heap.size + k) (hbs : ∀ x ∈ bs, x.1 < k ∧ Blk w0 (w.heap.size + x.1) 51 x.2)
  (hR : RefM w0.heap.size w1 M N N rb F) (hB : Below w0.heap.size w0 w1) : MkAt w (w1.alloc (.cells #[.int .i64 ((N : Nat) : Int), M] 51)) k bs w1.heap.size N M rb F := by
 have hle := hB.size
 have h1 : Below w.heap.size w w1 := h0.trans (hB.mono oW)
 refine ⟨h1.alloc h1.size _, fun x hx => ⟨(hbs x hx).1, ((hbs x hx).2.of_below hB).alloc _⟩, Blk.new _ _ _, ?_, fun p hp => ?_, oW⟩
 ·rw [← hs]
  exact hR.alloc _
 ·have := (hR.row p hp).2.lt
  omega
theorem MkAt.answer (h : MkAt w W k bs B N M rb F) {r : Nat} (hr : r < k) :
  RefM w.heap.size ((W.setCell ⟨w.heap.size + r, 0, none⟩ (.int .i64 ((N : Nat) : Int))).setCell ⟨w.heap.size + r, 1, none⟩ M) M N N rb F ∧ Below w.heap.size w ((W.setCell ⟨w.heap.size + r, 0, none⟩ (.int .i64 ((N : Nat) : Int))).setCell ⟨w.heap.size + r, 1, none⟩ M) := by
 refine ⟨RefM.mono (h.ref.below' fun g hg _ => ?_) oW, (h.below.setCell sW _).setCell sW _⟩
 rw [Below.heap_setCell _ _ _ _ (by simp; omega), Below.heap_setCell _ _ _ _ (by simp; omega)]
end
section
variable {P : Program} {ops : Array Oper} {md : Region.Mode} {Q : Exit → Act → World → Prop} {S : World → Prop}
end
end Go.Proofs.YtdkogbfamdnheaaGreatDoor
