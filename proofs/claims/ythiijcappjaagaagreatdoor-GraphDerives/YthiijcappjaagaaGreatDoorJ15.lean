/- The contract of the document's own Put. -/
import Derived.Test.YthiijcappjaagaaGreatDoorJ14
import Derived.Laws.ResultCell
import Derived.Test.YthiijcappjaagaaGreatDoorJ13
import Derived.Test.YthiijcappjaagaaGreatDoorJ10
import Derived.Test.YthiijcappjaagaaGreatDoorJ09
namespace Go.Proofs.YthiijcappjaagaaGreatDoor
open Go.RowKit Go.Shelf Sx
def putF (n : Nat) (F : Nat → Nat → Bool) (a b : Int) (v : Bool) : Nat → Nat → Bool := if inR n a && inR n b then upd F a.toNat b.toNat v else F
end Go.Proofs.YthiijcappjaagaaGreatDoor
namespace Go.Proofs.YthiijcappjaagaaGreatDoor
open Go.RowKit Go.Shelf Sx
theorem fillF_putT (G F0 : Nat → Nat → Bool) {m a b : Nat} : upd (fun x y => fillF G F0 m a b y x) b a (G a b) = fun x y => fillF G F0 m a (b + 1) y x := by
  funext x y
  have := congrFun (congrFun (fillF_put G F0 (m := m) (a := a) (b := b)) y) x
  rw [← this]
  unfold upd
  by_cases h : x = b ∧ y = a
  · rw [if_pos h, if_pos ⟨h.2, h.1⟩]
  · rw [if_neg h, if_neg (fun k => h ⟨k.2, k.1⟩)]
theorem fillF_full {G F0 : Nat → Nat → Bool} {m k x y : Nat} (hx : x < k) (hy : y < m) : fillF G F0 m k 0 x y = G x y := by
  unfold fillF
  rw [if_pos (Or.inl ⟨hx, hy⟩)]
end Go.Proofs.YthiijcappjaagaaGreatDoor
namespace Go.Proofs.YthiijcappjaagaaGreatDoor
open Go.RowKit Go.Shelf Sx
def extF (n : Nat) (F : Nat → Nat → Bool) : Nat → Nat → Bool := fun p q => decide (p < n) && (decide (q < n) && F p q)
theorem fill_ext (n : Nat) (F : Nat → Nat → Bool) (p q : Nat) : fillF F (fun _ _ => false) n n 0 p q = extF n F p q := by
  unfold fillF extF
  by_cases h1 : p < n
  · by_cases h2 : q < n
    · rw [if_pos (by omega)]; simp [h1, h2]
    · rw [if_neg (by omega)]; simp [h2]
  · rw [if_neg (by omega)]; simp [h1]
end Go.Proofs.YthiijcappjaagaaGreatDoor
namespace Go.Proofs.YthiijcappjaagaaGreatDoor
open Go.RowKit Go.Shelf Sx
set_option maxRecDepth 100000 in
set_option maxHeartbeats 8000000 in
theorem refInverse_calls (lo N : Nat) (hN : N ≤ 256) (x : Option Addr) (y z : Nat) (rb : Nat → Nat) (F : Nat → Nat → Bool) (w : World) (h : RefM lo w (.slice x y z) N N rb F) :
    Calls Tryz.prog 100 #[.agg #[.int .i64 ((N : Nat) : Int), .slice x y z]] w fun e w' => ∃ M rb', e = .returned (.agg #[.int .i64 ((N : Nat) : Int), M]) ∧ RefM w.heap.size w' M N N rb' (fun p q => F q p) ∧ Below w.heap.size w w' := by
  go_enter Tryz.func100, Tryz.ntmps100
  go_wp2_with fail
  refine (refNew_mid N hN _).mono ?_
  rintro e w1 ⟨M, rbw, rfl, hRM, hB1⟩
  obtain ⟨x2, y2, z2, rfl⟩ := hRM.slice
  have hA : MkAt w (w1.alloc (.cells #[.int .i64 ((N : Nat) : Int), .slice x2 y2 z2] 87)) 2 [(0, #[.int .i64 ((N : Nat) : Int), .slice x y z]), (1, #[.int .i64 0, .slice none 0 0])] w1.heap.size N (.slice x2 y2 z2) rbw (fun p q => fillF F (fun _ _ => false) N 0 0 q p) := by
    refine MkAt.begin (((Below.refl _ w).alloc (Nat.le_refl _) _).alloc (by simp) _) (by simp) ?_ (hRM.congr fun p q hp hq => ?_) hB1
    · intro x hx
      simp only [List.mem_cons, List.not_mem_nil, or_false] at hx
      rcases hx with rfl | rfl
      · exact ⟨by omega, (Blk.new w _ _).alloc _⟩
      · exact ⟨by omega, Blk.new2 w _ _ _⟩
    · rw [fillF_zero]
  clear hRM hB1
  go_wp2_with fail
  generalize w1.heap.size = B at *
  go_loopw [4] (fun i wr => ∃ a, a ≤ N ∧ i = .int .i64 ((a : Nat) : Int) ∧ MkAt w wr 2 [(0, #[.int .i64 ((N : Nat) : Int), .slice x y z]), (1, #[.int .i64 0, .slice none 0 0])] B N (.slice x2 y2 z2) rbw ((fun (a b : Nat) => fun p q => fillF F (fun _ _ => false) N a b q p) a 0)) (fun i _ => N - (intOf i).toNat)
  case atStart => exact ⟨0, by omega, rfl, hA⟩
  case round =>
    clear hA
    obtain ⟨a, ha, rfl, hA⟩ := hrel
    (try dsimp only at hA)
    have c0 := hA.box.cell (j := 0) rfl
    by_cases hlt : a < N
    · go_wp2_with fail
      clear c0
      go_loopw [5] (fun i wr => ∃ b, b ≤ N ∧ i = .int .i64 ((b : Nat) : Int) ∧ MkAt w wr 2 [(0, #[.int .i64 ((N : Nat) : Int), .slice x y z]), (1, #[.int .i64 0, .slice none 0 0])] B N (.slice x2 y2 z2) rbw ((fun (a b : Nat) => fun p q => fillF F (fun _ _ => false) N a b q p) a b)) (fun i _ => N - (intOf i).toNat)
      case atStart => exact ⟨0, by omega, rfl, hA⟩
      case round =>
        clear hA
        obtain ⟨b, hb, rfl, hA⟩ := hrel
        (try dsimp only at hA)
        have c0 := hA.box.cell (j := 0) rfl
        by_cases hlt2 : b < N
        · skip
          have c1 := hA.fst.cell (j := 1) rfl
          have d1 := hA.box.cell (j := 1) rfl
          obtain ⟨g1, cap1, e1, q1, _, _, r0, r1, _, _⟩ := (h.below hA.below).at_ hlt hlt2
          obtain ⟨g2, cap2, e2, q2, _, n2, s0, s1, fz, q3⟩ := hA.ref.at_ (p := b) (q := a) (by omega) (by omega)
          cases e1
          cases e2
          have hA2 := (hA.drew.put (p := b) (q := a) (by omega) (by omega) (F a b)).congr (G := fun p q => fillF F (fun _ _ => false) N a (b + 1) q p) (fun p q _ _ => congrFun (congrFun (fillF_putT F (fun _ _ => false)) p) q)
          rw [Nat.add_zero] at c1
          go_wp2_with fail
          go_region
          all_goals
            go_wp2_with fail
            refine ⟨⟨b + 1, by omega, by go_num, hA2⟩, by simp [intOf]; omega⟩
        · have e : N = b := by omega
          subst e
          rw [show (fun p q => fillF F (fun _ _ => false) N a N q p) = (fun p q => fillF F (fun _ _ => false) N (a + 1) 0 q p) by rw [fillF_row]] at hA
          go_wp2_with fail
          refine ⟨⟨a + 1, by omega, by go_num, hA⟩, by simp [intOf]; omega⟩
    · have e : N = a := by omega
      subst e
      have hA := hA.congr (G := fun p q => F q p) (fun p q hp hq => by exact fillF_full hq hp)
      have b0 := hA.box.cell (j := 0) rfl
      have b1 := hA.box.cell (j := 1) rfl
      have hr := hA.snd
      have d0 := hr.cell (j := 0) rfl
      have d1 := hr.cell (j := 1) rfl
      have f0 := hr.frozen 0
      have f1 := hr.frozen 1
      go_wp2_with fail
      have hres := (hr.set 0 (.int .i64 ((N : Nat) : Int))).set 1 (.slice x2 y2 z2)
      simp only [List.setIfInBounds_toArray, List.set_cons_zero, List.set_cons_succ] at hres
      (try simp only [Exit.inBlock, Exit.then])
      refine bodyPost_ret (ret_ref rfl rfl hres) rfl ?_
      obtain ⟨hA1, hB1⟩ := hA.answer (r := 1) (by omega)
      first | exact ⟨_, rbw, rfl, hA1, hB1⟩ | exact ⟨_, rfl, ⟨rbw, hA1⟩, hB1⟩
end Go.Proofs.YthiijcappjaagaaGreatDoor
namespace Go.Proofs.YthiijcappjaagaaGreatDoor
open Go.RowKit Go.Shelf Sx
end Go.Proofs.YthiijcappjaagaaGreatDoor
namespace Go.Proofs.YthiijcappjaagaaGreatDoor
open Go.RowKit Go.Shelf Sx
end Go.Proofs.YthiijcappjaagaaGreatDoor
namespace Go.Proofs.YthiijcappjaagaaGreatDoor
open Go.RowKit Go.Shelf Sx Relation
def Same (N : Nat) (F : Nat → Nat → Bool) (L : List Nat) : Prop := ∀ p q, p < N → q < N → (F p q = true ↔ hs L p q)
section
variable {N : Nat} {F : Nat → Nat → Bool} {L : List Nat}
end
end Go.Proofs.YthiijcappjaagaaGreatDoor
namespace Go.Proofs.YthiijcappjaagaaGreatDoor
open Go.RowKit Go.Shelf Sx
def cmpF (X Y : Nat → Nat → Bool) : Nat → Nat → Nat → Bool
  | 0 => fun _ _ => false
  | q + 1 => fun p s => cmpF X Y q p s || (X p q && Y q s)
theorem cmpF_succ (X Y : Nat → Nat → Bool) (q p s : Nat) : cmpF X Y (q + 1) p s = (cmpF X Y q p s || (X p q && Y q s)) := rfl
def rowsF (X Y : Nat → Nat → Bool) (N p q : Nat) : Nat → Nat → Bool := fun x y => if x < p then cmpF X Y N x y else if x = p then cmpF X Y q x y else false
theorem rowsF_zero (X Y : Nat → Nat → Bool) (N x y : Nat) : rowsF X Y N 0 0 x y = false := by
  unfold rowsF
  rw [if_neg (by omega)]
  split <;> rfl
theorem rowsF_still (X Y : Nat → Nat → Bool) (N p q : Nat) (h : X p q = false) (x y : Nat) : rowsF X Y N p q x y = rowsF X Y N p (q + 1) x y := by
  unfold rowsF
  by_cases h1 : x < p
  · rw [if_pos h1, if_pos h1]
  · rw [if_neg h1, if_neg h1]
    by_cases h2 : x = p
    · subst h2
      rw [if_pos rfl, if_pos rfl, cmpF_succ, h]
      simp
    · rw [if_neg h2, if_neg h2]
theorem rowsF_next (X Y : Nat → Nat → Bool) (N p x y : Nat) : rowsF X Y N p N x y = rowsF X Y N (p + 1) 0 x y := by
  unfold rowsF
  by_cases h1 : x < p
  · rw [if_pos h1, if_pos (by omega)]
  · rw [if_neg h1]
    by_cases h2 : x = p
    · subst h2
      rw [if_pos rfl, if_pos (by omega)]
    · rw [if_neg h2, if_neg (by omega)]
      split <;> rfl
theorem rowsF_filled (X Y : Nat → Nat → Bool) (N p q x y : Nat) (hy : y < N) : fillF (cmpF X Y (q + 1)) (rowsF X Y N p q) 0 p N x y = rowsF X Y N p (q + 1) x y := by
  unfold fillF rowsF
  by_cases h1 : x < p
  · rw [if_neg (by omega), if_pos h1, if_pos h1]
  · by_cases h2 : x = p
    · subst h2
      rw [if_pos (by omega), if_neg h1, if_pos rfl]
    · rw [if_neg (by omega), if_neg h1, if_neg h1, if_neg h2, if_neg h2]
theorem rowsF_here (X Y : Nat → Nat → Bool) (N p q s : Nat) : rowsF X Y N p q p s = cmpF X Y q p s := by
  unfold rowsF
  rw [if_neg (by omega), if_pos rfl]
structure CompB (w W : World) (bx bY N : Nat) (M1 M2 : Value) (r1 r2 : Nat → Nat) (X Y : Nat → Nat → Bool) : Prop where
  below : Below w.heap.size w W
  res : Blk W (w.heap.size + 2) 87 #[.int .i64 0, .slice none 0 0]
  hx : Blk W bx 87 #[.int .i64 ((N : Nat) : Int), M1]
  hy : Blk W bY 87 #[.int .i64 ((N : Nat) : Int), M2]
  rx : RefM 0 W M1 N N r1 X
  ry : RefM 0 W M2 N N r2 Y
theorem CompB.step {w W W' : World} {bx bY N : Nat} {M1 M2 : Value} {r1 r2 : Nat → Nat} {X Y : Nat → Nat → Bool} (h : CompB w W bx bY N M1 M2 r1 r2 X Y) (hB : Below W.heap.size W W') : CompB w W' bx bY N M1 M2 r1 r2 X Y :=
  ⟨below_step h.below h.below.size hB, h.res.of_below hB, h.hx.of_below hB, h.hy.of_below hB, h.rx.below hB, h.ry.below hB⟩
set_option maxRecDepth 100000 in
set_option maxHeartbeats 8000000 in
theorem refComp_calls (lo lo2 n m N : Nat) (hn : n ≤ 256) (hm : m ≤ 256) (HN : Hid (N = max n m)) (x : Option Addr) (y z : Nat) (rb : Nat → Nat) (F : Nat → Nat → Bool) (x1 : Option Addr) (y1 z1 : Nat) (rb1 : Nat → Nat) (G : Nat → Nat → Bool) (w : World) (h : RefM lo w (.slice x y z) n n rb F) (h1 : RefM lo2 w (.slice x1 y1 z1) m m rb1 G) :
    Calls Tryz.prog 99 #[.agg #[.int .i64 ((n : Nat) : Int), .slice x y z], .agg #[.int .i64 ((m : Nat) : Int), .slice x1 y1 z1]] w fun e w' => ∃ M rb', e = .returned (.agg #[.int .i64 ((N : Nat) : Int), M]) ∧ RefM w.heap.size w' M N N rb' (cmpF (extF n F) (extF m G) N) ∧ Below w.heap.size w w' := by
  have hN : N ≤ 256 := by have := HN.out; omega
  have HN2 : Hid (N = max m n) := by show _ = _; have := HN.out; omega
  have hW0 : Below w.heap.size w (((w.alloc (.cells #[.int .i64 ((n : Nat) : Int), .slice x y z] 87)).alloc (.cells #[.int .i64 ((m : Nat) : Int), .slice x1 y1 z1] 87)).alloc (.cells #[.int .i64 0, .slice none 0 0] 87)) := (((Below.refl _ w).alloc (Nat.le_refl _) _).alloc (by simp) _).alloc (by simp; omega) _
  go_enter Tryz.func99, Tryz.ntmps99
  go_wp2_with fail
  refine (refWide_at lo n hn x y z rb F m N hm HN _ (((h.alloc _).alloc _).alloc _)).mono ?_
  rintro e w1 ⟨M1, r1, rfl, hR1, hB1⟩
  obtain ⟨x2, y2, z2, rfl⟩ := hR1.slice
  have ba := (((((Blk.new w 87 #[.int .i64 ((n : Nat) : Int), .slice x y z]).alloc (.cells #[.int .i64 ((m : Nat) : Int), .slice x1 y1 z1] 87)).alloc (.cells #[.int .i64 0, .slice none 0 0] 87)).of_below hB1).alloc (.cells #[.int .i64 ((N : Nat) : Int), .slice x2 y2 z2] 87))
  have bb := ((((Blk.new2 w (.cells #[.int .i64 ((n : Nat) : Int), .slice x y z] 87) 87 #[.int .i64 ((m : Nat) : Int), .slice x1 y1 z1]).alloc (.cells #[.int .i64 0, .slice none 0 0] 87)).of_below hB1).alloc (.cells #[.int .i64 ((N : Nat) : Int), .slice x2 y2 z2] 87))
  have br := ((Blk.new3 w (.cells #[.int .i64 ((n : Nat) : Int), .slice x y z] 87) (.cells #[.int .i64 ((m : Nat) : Int), .slice x1 y1 z1] 87) 87 #[.int .i64 0, .slice none 0 0]).of_below hB1).alloc (.cells #[.int .i64 ((N : Nat) : Int), .slice x2 y2 z2] 87)
  have bx := Blk.new w1 87 #[.int .i64 ((N : Nat) : Int), .slice x2 y2 z2]
  have hW1 := below_step hW0 hW0.size hB1
  have hW1a := hW1.alloc hW1.size (.cells #[.int .i64 ((N : Nat) : Int), .slice x2 y2 z2] 87)
  have rX := ((hR1.congr (G := extF n F) (fun p q _ _ => fill_ext n F p q)).mono (Nat.zero_le _)).alloc (.cells #[.int .i64 ((N : Nat) : Int), .slice x2 y2 z2] 87)
  have h1a := h1.below hW1a
  clear hR1 hB1 hW0 hW1
  have a0 := ba.cell (j := 0) rfl
  have b0 := bb.cell (j := 0) rfl
  have b1 := bb.cell (j := 1) rfl
  go_wp2_with fail
  generalize hw1a : w1.alloc (.cells #[.int .i64 ((N : Nat) : Int), .slice x2 y2 z2] 87) = W1 at *
  generalize w1.heap.size = BX at *
  refine (refWide_at lo2 m hm x1 y1 z1 rb1 G n N hn HN2 _ h1a).mono ?_
  rintro e w2 ⟨M2, r2, rfl, hR2, hB2⟩
  obtain ⟨x3, y3, z3, rfl⟩ := hR2.slice
  have hW2 := below_step hW1a hW1a.size hB2
  have hC : CompB w (w2.alloc (.cells #[.int .i64 ((N : Nat) : Int), .slice x3 y3 z3] 87)) BX w2.heap.size N (.slice x2 y2 z2) (.slice x3 y3 z3) r1 r2 (extF n F) (extF m G) :=
    ⟨hW2.alloc hW2.size _, (br.of_below hB2).alloc _, (bx.of_below hB2).alloc _, Blk.new _ _ _, (rX.below hB2).alloc _, ((hR2.congr (G := extF m G) (fun p q _ _ => fill_ext m G p q)).mono (Nat.zero_le _)).alloc _⟩
  clear ba bb br bx hW1a rX h1a hR2 hB2 hW2 a0 b0 b1 h h1
  have a0 := hC.hx.cell (j := 0) rfl
  go_wp2_with fail
  generalize w2.alloc (.cells #[.int .i64 ((N : Nat) : Int), .slice x3 y3 z3] 87) = w3 at *
  generalize w2.heap.size = BY at *
  clear a0
  refine (refNew_mid N hN _).mono ?_
  rintro e w4 ⟨M, rbw, rfl, hRM, hB4⟩
  obtain ⟨x4, y4, z4, rfl⟩ := hRM.slice
  have hA : MkAt w3 (w4.alloc (.cells #[.int .i64 ((N : Nat) : Int), .slice x4 y4 z4] 87)) 0 [] w4.heap.size N (.slice x4 y4 z4) rbw (rowsF (extF n F) (extF m G) N 0 0) :=
    MkAt.begin (Below.refl _ _) (by simp) (fun x hx => by cases hx) (hRM.congr fun p q hp hq => (rowsF_zero _ _ N p q).symm) hB4
  clear hRM hB4
  go_wp2_with fail
  generalize w4.heap.size = B at *
  go_loopw [8] (fun i wr => ∃ p, p ≤ N ∧ i = .int .i64 ((p : Nat) : Int) ∧ MkAt w3 wr 0 [] B N (.slice x4 y4 z4) rbw (rowsF (extF n F) (extF m G) N p 0)) (fun i _ => N - (intOf i).toNat)
  case atStart => exact ⟨0, by omega, rfl, hA⟩
  case round =>
    clear hA
    obtain ⟨p, hp, rfl, hA⟩ := hrel
    have c0 := hA.box.cell (j := 0) rfl
    by_cases hlt : p < N
    · go_wp2_with fail
      clear c0
      go_loopw [9] (fun i wr => ∃ q, q ≤ N ∧ i = .int .i64 ((q : Nat) : Int) ∧ MkAt w3 wr 0 [] B N (.slice x4 y4 z4) rbw (rowsF (extF n F) (extF m G) N p q)) (fun i _ => N - (intOf i).toNat)
      case atStart => exact ⟨0, by omega, rfl, hA⟩
      case round =>
        clear hA
        obtain ⟨q, hq, rfl, hA⟩ := hrel
        have c0 := hA.box.cell (j := 0) rfl
        by_cases hlt2 : q < N
        · cases hv : extF n F p q
          · have hA2 := hA.congr (fun x y _ _ => rowsF_still (extF n F) (extF m G) N p q hv x y)
            have Hv : Hid (extF n F p q = false) := hv
            clear hA hv
            go_wp2_with fail
            clear c0
            go_loopw [10] (fun i wr => i = .int .i64 0 ∧ MkAt w3 wr 0 [] B N (.slice x4 y4 z4) rbw (rowsF (extF n F) (extF m G) N p (q + 1))) (fun _ _ => 0)
            case atStart => exact ⟨rfl, hA2⟩
            case round =>
              clear hA2
              obtain ⟨rfl, hA⟩ := hrel
              have hC2 := hC.step hA.below
              have d1 := hC2.hx.cell (j := 1) rfl
              obtain ⟨g2, cap2, e2, _, _, _, s0, s1, _, _⟩ := hC2.rx.at_ (p := p) (q := q) hlt hlt2
              cases e2
              rw [Hv.out] at s1
              go_wp2_with fail
              refine ⟨⟨q + 1, by omega, by go_num, hA⟩, by simp [intOf]; omega⟩
          · have Hv : Hid (extF n F p q = true) := hv
            have hA2 : MkAt w3 _ 0 [] B N (.slice x4 y4 z4) rbw (fillF (cmpF (extF n F) (extF m G) (q + 1)) (rowsF (extF n F) (extF m G) N p q) 0 p 0) := hA.congr (fun x y _ _ => by unfold fillF; rw [if_neg (by omega)])
            clear hv hA
            go_wp2_with fail
            clear c0
            go_loopw [10] (fun i wr => ∃ s, s ≤ N ∧ i = .int .i64 ((s : Nat) : Int) ∧ MkAt w3 wr 0 [] B N (.slice x4 y4 z4) rbw (fillF (cmpF (extF n F) (extF m G) (q + 1)) (rowsF (extF n F) (extF m G) N p q) 0 p s)) (fun i _ => N - (intOf i).toNat)
            case atStart => exact ⟨0, by omega, rfl, hA2⟩
            case round =>
              clear hA2
              obtain ⟨s, hs, rfl, hA⟩ := hrel
              have hC2 := hC.step hA.below
              have c0 := hA.box.cell (j := 0) rfl
              have d1 := hC2.hx.cell (j := 1) rfl
              obtain ⟨g2, cap2, e2, _, _, _, s0, s1, _, _⟩ := hC2.rx.at_ (p := p) (q := q) hlt hlt2
              rw [Hv.out] at s1
              by_cases hlt3 : s < N
              · have k1 := hC2.hy.cell (j := 1) rfl
                have m1 := hA.box.cell (j := 1) rfl
                obtain ⟨g3, cap3, e3, _, _, _, t0, t1, _, _⟩ := hC2.ry.at_ (p := q) (q := s) hlt2 hlt3
                obtain ⟨g4, cap4, e4, _, _, n4, u0, u1, fz, _⟩ := hA.ref.at_ (p := p) (q := s) hlt hlt3
                cases e2
                cases e3
                cases e4
                rw [fillF_at, rowsF_here] at u1
                have hval : cmpF (extF n F) (extF m G) (q + 1) p s = (cmpF (extF n F) (extF m G) q p s || extF m G q s) := by rw [cmpF_succ, Hv.out, Bool.true_and]
                have hA2 := hA.drew.put (p := p) (q := s) hlt hlt3 (cmpF (extF n F) (extF m G) q p s || extF m G q s)
                rw [← hval, fillF_put] at hA2
                cases hu : cmpF (extF n F) (extF m G) q p s
                · rw [hval, hu, Bool.false_or] at hA2
                  rw [hu] at u1
                  clear hval hu
                  go_wp2_with fail
                  go_region
                  all_goals
                    go_wp2_with fail
                    refine ⟨⟨s + 1, by omega, by go_num, hA2⟩, by simp [intOf]; omega⟩
                · rw [hval, hu, Bool.true_or] at hA2
                  rw [hu] at u1
                  clear hval hu
                  go_wp2_with fail
                  go_region
                  all_goals
                    go_wp2_with fail
                    refine ⟨⟨s + 1, by omega, by go_num, hA2⟩, by simp [intOf]; omega⟩
              · have e : N = s := by omega
                subst e
                cases e2
                have hA2 := hA.congr (fun x y _ hy => rowsF_filled (extF n F) (extF m G) N p q x y hy)
                go_wp2_with fail
                refine ⟨⟨q + 1, by omega, by go_num, hA2⟩, by simp [intOf]; omega⟩
        · have e : N = q := by omega
          subst e
          have hA2 := hA.congr (fun x y _ _ => rowsF_next (extF n F) (extF m G) N p x y)
          go_wp2_with fail
          refine ⟨⟨p + 1, by omega, by go_num, hA2⟩, by simp [intOf]; omega⟩
    · have e : N = p := by omega
      subst e
      have hA := hA.congr (G := cmpF (extF n F) (extF m G) N) (fun x y hx _ => by unfold rowsF; rw [if_pos hx])
      have hC2 := hC.step hA.below
      have b1 := hA.box.cell (j := 1) rfl
      have hr := hC2.res
      have d0 := hr.cell (j := 0) rfl
      have d1 := hr.cell (j := 1) rfl
      have f0 := hr.frozen 0
      have f1 := hr.frozen 1
      go_wp2_with fail
      have hres := (hr.set 0 (.int .i64 ((N : Nat) : Int))).set 1 (.slice x4 y4 z4)
      simp only [List.setIfInBounds_toArray, List.set_cons_zero, List.set_cons_succ] at hres
      (try simp only [Exit.inBlock, Exit.then])
      refine bodyPost_ret (ret_ref rfl rfl hres) rfl ?_
      have hl := hC.res.lt
      have hA1 : RefM w.heap.size ((_ : World).setCell ⟨w.heap.size + 2, 0, none⟩ (.int .i64 ((N : Nat) : Int)) |>.setCell ⟨w.heap.size + 2, 1, none⟩ (.slice x4 y4 z4)) (.slice x4 y4 z4) N N rbw (cmpF (extF n F) (extF m G) N) := RefM.mono (hA.ref.below' fun g hg _ => by rw [Below.heap_setCell _ _ _ _ (by simp; omega), Below.heap_setCell _ _ _ _ (by simp; omega)]) (by omega)
      have hB1 := (hC2.below.setCell (p := ⟨w.heap.size + 2, 0, none⟩) (by simp) (.int .i64 ((N : Nat) : Int))).setCell (p := ⟨w.heap.size + 2, 1, none⟩) (by simp) (.slice x4 y4 z4)
      first | exact ⟨_, rbw, rfl, hA1, hB1⟩ | exact ⟨_, rfl, ⟨rbw, hA1⟩, hB1⟩
end Go.Proofs.YthiijcappjaagaaGreatDoor
namespace Go.Proofs.YthiijcappjaagaaGreatDoor
open Go.RowKit Go.Shelf Sx
end Go.Proofs.YthiijcappjaagaaGreatDoor
namespace Go.Proofs.YthiijcappjaagaaGreatDoor
open Go.RowKit Go.Shelf Sx
def prsRow (F : Nat → Nat → Bool) (p q : Nat) : List (Nat × Nat) := ((List.range q).filter (F p)).map (fun y => (p, y))
def prsF (n : Nat) (F : Nat → Nat → Bool) (p q : Nat) : List (Nat × Nat) := (List.range p).flatMap (fun x => prsRow F x n) ++ prsRow F p q
theorem prsRow_succ (F : Nat → Nat → Bool) (p q : Nat) : prsRow F p (q + 1) = prsRow F p q ++ (if F p q then [(p, q)] else []) := by
  unfold prsRow
  rw [List.range_succ, List.filter_append, List.map_append]
  congr 1
  cases h : F p q <;> simp [h]
theorem prsF_yes {n : Nat} {F : Nat → Nat → Bool} {p q : Nat} (h : F p q = true) : prsF n F p (q + 1) = prsF n F p q ++ [(p, q)] := by
  unfold prsF
  rw [prsRow_succ, h, if_pos rfl, List.append_assoc]
theorem prsF_no {n : Nat} {F : Nat → Nat → Bool} {p q : Nat} (h : F p q = false) : prsF n F p (q + 1) = prsF n F p q := by
  unfold prsF
  rw [prsRow_succ, h]
  simp
theorem prsF_next (n : Nat) (F : Nat → Nat → Bool) (p : Nat) : prsF n F p n = prsF n F (p + 1) 0 := by
  unfold prsF
  rw [List.range_succ, List.flatMap_append]
  simp [prsRow]
structure PrAt (w W : World) (n : Nat) (A v : Value) (l : List (Nat × Nat)) : Prop where
  below : Below w.heap.size w W
  box : Blk W w.heap.size 87 #[.int .i64 ((n : Nat) : Int), A]
  own : W.ownsRow (w.heap.size + 1) 77 2 v l.length (encPs l)
theorem PrAt.more {w W W' : World} {n : Nat} {A v v' : Value} {l : List (Nat × Nat)} {a b : Nat} (h : PrAt w W n A v l)
    (hown : W'.ownsRow (w.heap.size + 1) 77 2 v' (l.length + 1) (encPs l ++ [.int .i64 ((a : Nat) : Int), .int .i64 ((b : Nat) : Int)]))
    (hg : (W.alloc (.cells #[.int .i64 ((a : Nat) : Int), .int .i64 ((b : Nat) : Int)] 77)).grownBy W' v.ownBlock) : PrAt w W' n A v' (l ++ [(a, b)]) := by
  have hlt := h.box.lt
  refine ⟨(h.below.alloc h.below.size _).grown hg (by simp; omega) (fun k e => by have := (h.own.lt k e).1; omega), ?_, ?_⟩
  · exact (hg.block _ (by simp; omega) (fun e => by have := (h.own.lt _ e.symm).1; omega)).trans (h.box.alloc _)
  · rw [encPs_snoc, List.length_append]
    exact hown
theorem owns_lower {w : World} {base base' : Nat} {e : TypeId} {size : Nat} {v : Value} {n : Nat} {xs : List Value} (h : w.ownsRow base e size v n xs) (hb : base' ≤ base) : w.ownsRow base' e size v n xs := by
  refine ⟨h.1, ?_⟩
  rcases h.2 with h2 | ⟨g, cap, cur, e1, e2, e3⟩
  · exact .inl h2
  · exact .inr ⟨g, cap, cur, e1, Nat.le_trans hb e2, e3⟩
set_option maxRecDepth 100000 in
set_option maxHeartbeats 4000000 in
theorem refPairs_calls (lo n : Nat) (hn : n ≤ 256) (x : Option Addr) (y z : Nat) (rb : Nat → Nat) (F : Nat → Nat → Bool) (w : World) (h : RefM lo w (.slice x y z) n n rb F) :
    Calls Tryz.prog 97 #[.agg #[.int .i64 ((n : Nat) : Int), .slice x y z]] w fun e w' => ∃ v, e = .returned v ∧ w'.ownsRow w.heap.size 77 2 v (prsF n F n 0).length (encPs (prsF n F n 0)) ∧ Below w.heap.size w w' := by
  obtain ⟨i0, hi, hz0, hz1, hz2⟩ := info_parts Tryz.infopair
  have hA : PrAt w (w.alloc (.cells #[.int .i64 ((n : Nat) : Int), .slice x y z] 87)) n (.slice x y z) (.slice none 0 0) [] :=
    ⟨(Below.refl _ _).alloc (Nat.le_refl _) _, Blk.new _ _ _, World.ownsRow_nil _ _ _ _⟩
  go_enter Tryz.func97, Tryz.ntmps97
  go_wp2_with fail
  go_loopw [3, 4] (fun v i wr => ∃ p l, p ≤ n ∧ i = .int .i64 ((p : Nat) : Int) ∧ PrAt w wr n (.slice x y z) v l ∧ Hid (l = prsF n F p 0) ∧ l.length ≤ p * 256) (fun _ i _ => n - (intOf i).toNat)
  case atStart => exact ⟨0, [], by omega, rfl, hA, rfl, by simp⟩
  case round =>
    clear hA
    obtain ⟨p, l, hp, rfl, hA, HL, hlen⟩ := hrel
    have c0 := hA.box.cell (j := 0) rfl
    by_cases hlt : p < n
    · go_wp2_with fail
      clear c0
      go_loopw [3, 5] (fun v i wr => ∃ q l, q ≤ n ∧ i = .int .i64 ((q : Nat) : Int) ∧ PrAt w wr n (.slice x y z) v l ∧ Hid (l = prsF n F p q) ∧ l.length ≤ p * 256 + q) (fun _ i _ => n - (intOf i).toNat)
      case atStart => exact ⟨0, l, by omega, rfl, hA, HL, by omega⟩
      case round =>
        clear hA HL hlen
        obtain ⟨q, l, hq, rfl, hA, HL, hlen⟩ := hrel
        have c0 := hA.box.cell (j := 0) rfl
        by_cases hlt2 : q < n
        · have c1 := hA.box.cell (j := 1) rfl
          obtain ⟨g, cap, e, _, _, _, d0, d1, _, _⟩ := (h.below hA.below).at_ hlt hlt2
          cases e
          cases hf : F p q
          · rw [hf] at d1
            have HL2 : Hid (l = prsF n F p (q + 1)) := by show _ = _; rw [prsF_no hf]; exact HL.out
            clear hf
            go_wp2_with fail
            refine ⟨⟨q + 1, l, by omega, by go_num, hA, HL2, by omega⟩, by simp [intOf]; omega⟩
          · rw [hf] at d1
            have HL2 : Hid (l ++ [(p, q)] = prsF n F p (q + 1)) := by show _ = _; rw [prsF_yes hf, ← HL.out]
            clear hf
            have hlt4 := hA.box.lt
            go_wp2_with (at_builtin; refine wpList_append_own_at _ rfl _ _ 23 rfl (w.heap.size + 1) 77 i0 (.agg #[.int .i64 0, .int .i64 0]) 2 16 Tryz.underlying23 hi hz0 hz1 hz2 rfl (by decide) _ _ _ rfl (hA.own.alloc _) ⟨_, 0, none⟩ 1 1 [.int .i64 ((p : Nat) : Int), .int .i64 ((q : Nat) : Int)] rfl rfl (news_two _ _ _ _) (by simp [Value.oneCell']) (by unfold maxLen; omega) (by omega) (by simp; omega) ?_; intro v' w4 hown' hgrow _ hat)
            have hA2 := hA.more hown' hgrow
            refine ⟨⟨q + 1, l ++ [(p, q)], by omega, by go_num, hA2, HL2, by simp; omega⟩, by simp [intOf]; omega⟩
        · have e : n = q := by omega
          subst e
          have HL2 : Hid (l = prsF n F (p + 1) 0) := by show _ = _; rw [← prsF_next]; exact HL.out
          go_wp2_with fail
          refine ⟨⟨p + 1, l, by omega, by go_num, hA, HL2, by omega⟩, by simp [intOf]; omega⟩
    · have e : n = p := by omega
      subst e
      have ho := hA.own
      rw [HL.out] at ho
      go_wp2_with fail
      go_ret
      exact ⟨_, rfl, owns_lower ho (by omega), hA.below⟩
end Go.Proofs.YthiijcappjaagaaGreatDoor
namespace Go.Proofs.YthiijcappjaagaaGreatDoor
open Go.RowKit Go.Shelf Sx
def ofFn (N : Nat) (l : List (Int × Int)) : Nat → Nat → Bool := l.foldl (fun F x => putF N F x.1 x.2 true) (fun _ _ => false)
theorem ofFn_snoc (N : Nat) (l : List (Int × Int)) (x : Int × Int) : ofFn N (l ++ [x]) = putF N (ofFn N l) x.1 x.2 true := by simp [ofFn]
theorem ofFn_take {N : Nat} {l : List (Int × Int)} {k : Nat} {a b : Int} (h : l[k]? = some (a, b)) : putF N (ofFn N (l.take k)) a b true = ofFn N (l.take (k + 1)) := by
  rw [List.take_add_one, h]
  exact (ofFn_snoc N _ (a, b)).symm
theorem refOf_none (n : Int) (v : Option Addr) (cap : Nat) (w : World) (N : Nat) (HN : Hid (clampN n = N)) :
    Calls Tryz.prog 101 #[.int .i64 n, .slice v 0 cap] w fun e w' => ∃ M rb', e = .returned (.agg #[.int .i64 ((N : Nat) : Int), M]) ∧ RefM w.heap.size w' M N N rb' (ofFn N []) ∧ Below w.heap.size w w' := by
  go_enter Tryz.func101, Tryz.ntmps101
  go_wp2_with fail
  refine (refNew_calls n _).mono ?_
  rw [HN.out]
  rintro e w1 ⟨M, rbw, rfl, hRM, hB1⟩
  obtain ⟨x2, y2, z2, rfl⟩ := hRM.slice
  have hA : MkAt w (w1.alloc (.cells #[.int .i64 ((N : Nat) : Int), .slice x2 y2 z2] 87)) 1 [(0, #[.int .i64 0, .slice none 0 0])] w1.heap.size N (.slice x2 y2 z2) rbw (ofFn N []) := by
    refine MkAt.begin ((Below.refl _ w).alloc (Nat.le_refl _) _) (by simp) ?_ hRM hB1
    intro x hx
    simp only [List.mem_cons, List.not_mem_nil, or_false] at hx
    subst hx
    exact ⟨by omega, Blk.new w _ _⟩
  clear hRM hB1
  go_wp2_with fail
  generalize w1.heap.size = B at *
  go_loopw [6] (fun i wr => i = .int .i64 0 ∧ MkAt w wr 1 [(0, #[.int .i64 0, .slice none 0 0])] B N (.slice x2 y2 z2) rbw (ofFn N [])) (fun _ _ => 0)
  case atStart => exact ⟨rfl, hA⟩
  case round =>
    clear hA
    obtain ⟨rfl, hA⟩ := hrel
    have b0 := hA.box.cell (j := 0) rfl
    have b1 := hA.box.cell (j := 1) rfl
    have hr := hA.fst
    rw [Nat.add_zero] at hr
    have d0 := hr.cell (j := 0) rfl
    have d1 := hr.cell (j := 1) rfl
    have f0 := hr.frozen 0
    have f1 := hr.frozen 1
    go_wp2_with fail
    have hres := (hr.set 0 (.int .i64 ((N : Nat) : Int))).set 1 (.slice x2 y2 z2)
    simp only [List.setIfInBounds_toArray, List.set_cons_zero, List.set_cons_succ] at hres
    (try simp only [Exit.inBlock, Exit.then])
    refine bodyPost_ret (ret_ref rfl rfl hres) rfl ?_
    obtain ⟨hA1, hB1⟩ := hA.answer (r := 0) (by omega)
    rw [Nat.add_zero] at hA1 hB1
    first | exact ⟨_, rbw, rfl, hA1, hB1⟩ | exact ⟨_, rfl, ⟨rbw, hA1⟩, hB1⟩
set_option maxRecDepth 100000 in
set_option maxHeartbeats 8000000 in
theorem refOf_some (n : Int) (s o cap : Nat) (l : List (Int × Int)) (w : World) (hPA : PairsAt w s o l) (hm : l.length ≤ 9223372036854775807) (N : Nat) (HN : Hid (clampN n = N)) :
    Calls Tryz.prog 101 #[.int .i64 n, .slice (some ⟨s, o, none⟩) l.length cap] w fun e w' => ∃ M rb', e = .returned (.agg #[.int .i64 ((N : Nat) : Int), M]) ∧ RefM w.heap.size w' M N N rb' (ofFn N l) ∧ Below w.heap.size w w' := by
  go_enter Tryz.func101, Tryz.ntmps101
  go_wp2_with fail
  refine (refNew_calls n _).mono ?_
  rw [HN.out]
  rintro e w1 ⟨M, rbw, rfl, hRM, hB1⟩
  obtain ⟨x2, y2, z2, rfl⟩ := hRM.slice
  have hA : MkAt w (w1.alloc (.cells #[.int .i64 ((N : Nat) : Int), .slice x2 y2 z2] 87)) 1 [(0, #[.int .i64 0, .slice none 0 0])] w1.heap.size N (.slice x2 y2 z2) rbw (ofFn N (l.take 0)) := by
    refine MkAt.begin ((Below.refl _ w).alloc (Nat.le_refl _) _) (by simp) ?_ hRM hB1
    intro x hx
    simp only [List.mem_cons, List.not_mem_nil, or_false] at hx
    subst hx
    exact ⟨by omega, Blk.new w _ _⟩
  clear hRM hB1
  go_wp2_with fail
  generalize w1.heap.size = B at *
  go_loopw [6] (fun i wr => ∃ k, k ≤ l.length ∧ i = .int .i64 ((k : Nat) : Int) ∧ MkAt w wr 1 [(0, #[.int .i64 0, .slice none 0 0])] B N (.slice x2 y2 z2) rbw (ofFn N (l.take k))) (fun i _ => l.length - (intOf i).toNat)
  case atStart => exact ⟨0, by omega, rfl, hA⟩
  case round =>
    clear hA
    obtain ⟨k, hk, rfl, hA⟩ := hrel
    by_cases hlt : k < l.length
    · obtain ⟨⟨xa, xb⟩, hx⟩ : ∃ x, l[k]? = some x := ⟨_, List.getElem?_eq_getElem hlt⟩
      cases ha : inR N xa
      · have HE0 : Hid (ofFn N (l.take k) = ofFn N (l.take (k + 1))) := by
          show _ = _
          rw [← ofFn_take (N := N) hx]
          unfold putF
          rw [ha]
          rfl
        go_wp2_with fail
        generalize hA0 : Act.mk _ _ = a0
        have hsz : a0.tmps.size = 47 := by rw [← hA0]; rfl
        have b5 : Act.eval a0 (.tmp 5) = pv B := by rw [← hA0]; rfl
        have b6 : Act.eval a0 (.tmp 6) = .int .i64 ((k : Nat) : Int) := by rw [← hA0]; rfl
        have b1 : Act.eval a0 (.tmp 1) = .slice (some ⟨s, o, none⟩) l.length cap := by rw [← hA0]; rfl
        refine wp_region_held_drew (S := (fun W' => ∃ F', MkAt w W' 1 [(0, #[.int .i64 0, .slice none 0 0])] B N (.slice x2 y2 z2) rbw F')) (by kernel_rfl) ⟨_, hA.drew⟩ (fun hS => ?_)
        refine anyS_take (i := 0) (d := some 15) (v := .agg #[.int .i64 ((N : Nat) : Int), .slice x2 y2 z2]) hS rfl rfl (by kernel_rfl) (by kernel_rfl) (by kernel_rfl) (fun _ _ _ h => h) (by rfl) ?_ ?_
        · intro w9 hSw
          have e5 := b5
          have ec : ∀ v, Act.eval a0 (.const v) = v := fun _ => rfl
          have ef : ∀ f, Act.eval a0 (.func f) = .func (.func f) #[] #[] := fun _ => rfl
          generalize Act.eval a0 = ρ at *
          simp only [List.getElem_toArray, List.getElem_cons_zero]
          obtain ⟨F9, hA9⟩ := hSw
          have k0 := hA9.box.cell (j := 0) rfl
          have k1 := hA9.box.cell (j := 1) rfl
          go_simp
        refine anyS_take (i := 1) (d := some 16) (v := .slice (some ⟨s, o, none⟩) l.length cap) hS rfl rfl (by kernel_rfl) (by kernel_rfl) (by kernel_rfl) (fun _ _ _ h => h) (by rfl) ?_ ?_
        · intro w9 hSw
          generalize hρ : Act.eval _ = ρ
          have e1 : ρ (.tmp 1) = .slice (some ⟨s, o, none⟩) l.length cap := by rw [← hρ, Act.eval_put_ne _ _ _ _ (by decide), b1]
          obtain ⟨ec, ef⟩ := ev_cf hρ
          clear hρ
          simp only [List.getElem_toArray, List.getElem_cons_zero, List.getElem_cons_succ]
          clear hSw
          go_simp
        refine anyS_take (i := 2) (d := some 17) (v := .int .i64 ((k : Nat) : Int)) hS rfl rfl (by kernel_rfl) (by kernel_rfl) (by kernel_rfl) (fun _ _ _ h => h) (by rfl) ?_ ?_
        · intro w9 hSw
          generalize hρ : Act.eval _ = ρ
          have e6 : ρ (.tmp 6) = .int .i64 ((k : Nat) : Int) := by rw [← hρ, Act.eval_put_ne _ _ _ _ (by decide), Act.eval_put_ne _ _ _ _ (by decide), b6]
          obtain ⟨ec, ef⟩ := ev_cf hρ
          clear hρ
          simp only [List.getElem_toArray, List.getElem_cons_zero, List.getElem_cons_succ]
          clear hSw
          go_simp
        refine anyS_take (i := 3) (d := some 18) (v := .pointer (some ⟨s, o + k * 2, none⟩)) hS rfl rfl (by kernel_rfl) (by kernel_rfl) (by kernel_rfl) (fun _ _ _ h => h) (by rfl) ?_ ?_
        · intro w9 hSw
          generalize hρ : Act.eval _ = ρ
          have e16 : ρ (.tmp 16) = .slice (some ⟨s, o, none⟩) l.length cap := by rw [← hρ, Act.eval_put_ne _ _ _ _ (by decide), Act.eval_put_same _ _ _ (by (repeat rw [Act.size_put]); omega)]
          have e17 : ρ (.tmp 17) = .int .i64 ((k : Nat) : Int) := by rw [← hρ, Act.eval_put_same _ _ _ (by (repeat rw [Act.size_put]); omega)]
          obtain ⟨ec, ef⟩ := ev_cf hρ
          clear hρ
          simp only [List.getElem_toArray, List.getElem_cons_zero, List.getElem_cons_succ]
          clear hSw
          go_simp
        refine anyS_take (i := 4) (d := some 19) (v := .pointer (some ⟨s, o + k * 2, none⟩)) hS rfl rfl (by kernel_rfl) (by kernel_rfl) (by kernel_rfl) (fun _ _ _ h => h) (by rfl) ?_ ?_
        · intro w9 hSw
          generalize hρ : Act.eval _ = ρ
          have e18 : ρ (.tmp 18) = .pointer (some ⟨s, o + k * 2, none⟩) := by rw [← hρ, Act.eval_put_same _ _ _ (by (repeat rw [Act.size_put]); omega)]
          obtain ⟨ec, ef⟩ := ev_cf hρ
          clear hρ
          simp only [List.getElem_toArray, List.getElem_cons_zero, List.getElem_cons_succ]
          clear hSw
          go_simp
        refine anyS_take (i := 5) (d := some 20) (v := .int .i64 xa) hS rfl rfl (by kernel_rfl) (by kernel_rfl) (by kernel_rfl) (fun _ _ _ h => h) (by rfl) ?_ ?_
        · intro w9 hSw
          generalize hρ : Act.eval _ = ρ
          have e19 : ρ (.tmp 19) = .pointer (some ⟨s, o + k * 2, none⟩) := by rw [← hρ, Act.eval_put_same _ _ _ (by (repeat rw [Act.size_put]); omega)]
          obtain ⟨ec, ef⟩ := ev_cf hρ
          clear hρ
          simp only [List.getElem_toArray, List.getElem_cons_zero, List.getElem_cons_succ]
          obtain ⟨F9, hA9⟩ := hSw
          have k0 := (hPA.below hA9.below).fst k _ hx
          go_simp
        refine wpAnyH_ready (rs := [6]) (by kernel_rfl) (by simp) ?_
        refine anyS_enter (i := 6) (d := some 21) (f := 121) (args := #[.agg #[.int .i64 ((N : Nat) : Int), .slice x2 y2 z2], .int .i64 xa]) (w' := wr.drew) rfl rfl (by rfl) ?_ ?_ AllReadyH.nil
        · skip
          generalize hρ : Act.eval _ = ρ
          have e15 : ρ (.tmp 15) = .agg #[.int .i64 ((N : Nat) : Int), .slice x2 y2 z2] := by rw [← hρ, Act.eval_put_ne _ _ _ _ (by decide), Act.eval_put_ne _ _ _ _ (by decide), Act.eval_put_ne _ _ _ _ (by decide), Act.eval_put_ne _ _ _ _ (by decide), Act.eval_put_ne _ _ _ _ (by decide), Act.eval_put_same _ _ _ (by (repeat rw [Act.size_put]); omega)]
          have e20 : ρ (.tmp 20) = .int .i64 xa := by rw [← hρ, Act.eval_put_same _ _ _ (by (repeat rw [Act.size_put]); omega)]
          obtain ⟨ec, ef⟩ := ev_cf hρ
          clear hρ
          simp only [List.getElem_toArray, List.getElem_cons_zero, List.getElem_cons_succ]
          go_simp
        refine (refinT false N x2 y2 z2 xa _ ha).mono ?_
        rintro e w5 ⟨rfl, hB5⟩
        have hA5 := hA.drew.step hB5
        refine ⟨_, rfl, ⟨_, hA5⟩, ?_⟩
        clear hS
        have hS : ∃ F', MkAt w w5 1 [(0, #[.int .i64 0, .slice none 0 0])] B N (.slice x2 y2 z2) rbw F' := ⟨_, hA5⟩
        refine anyS_take (i := 7) (d := some 22) (v := .bool false) hS rfl rfl (by kernel_rfl) (by kernel_rfl) (by kernel_rfl) (fun _ _ _ h => h) (by rfl) ?_ ?_
        · intro w9 hSw
          generalize hρ : Act.eval _ = ρ
          have e21 : ρ (.tmp 21) = .bool false := by rw [← hρ, Act.eval_put_same _ _ _ (by (repeat rw [Act.size_put]); omega)]
          obtain ⟨ec, ef⟩ := ev_cf hρ
          clear hρ
          simp only [List.getElem_toArray, List.getElem_cons_zero, List.getElem_cons_succ]
          clear hSw
          go_simp
        refine anyS_off (i := 8) (d := some 23) hS rfl rfl (by kernel_rfl) (by kernel_rfl) (by kernel_rfl) (fun _ _ _ h => h) (wanted_off (j := 7) (d := 22) (want := true) rfl rfl (by rw [tmp_put_same _ _ _ (by (repeat rw [Act.size_put]); omega)]; rfl)) ?_
        refine anyS_off (i := 9) (d := some 24) hS rfl rfl (by kernel_rfl) (by kernel_rfl) (by kernel_rfl) (fun _ _ _ h => h) (wanted_off (j := 7) (d := 22) (want := true) rfl rfl (by rw [tmp_put_ne _ _ _ _ (by decide), tmp_put_same _ _ _ (by (repeat rw [Act.size_put]); omega)]; rfl)) ?_
        refine anyS_off (i := 10) (d := some 25) hS rfl rfl (by kernel_rfl) (by kernel_rfl) (by kernel_rfl) (fun _ _ _ h => h) (wanted_off (j := 7) (d := 22) (want := true) rfl rfl (by rw [tmp_put_ne _ _ _ _ (by decide), tmp_put_ne _ _ _ _ (by decide), tmp_put_same _ _ _ (by (repeat rw [Act.size_put]); omega)]; rfl)) ?_
        refine anyS_off (i := 11) (d := some 26) hS rfl rfl (by kernel_rfl) (by kernel_rfl) (by kernel_rfl) (fun _ _ _ h => h) (wanted_off (j := 7) (d := 22) (want := true) rfl rfl (by rw [tmp_put_ne _ _ _ _ (by decide), tmp_put_ne _ _ _ _ (by decide), tmp_put_ne _ _ _ _ (by decide), tmp_put_same _ _ _ (by (repeat rw [Act.size_put]); omega)]; rfl)) ?_
        refine anyS_off (i := 12) (d := some 27) hS rfl rfl (by kernel_rfl) (by kernel_rfl) (by kernel_rfl) (fun _ _ _ h => h) (wanted_off (j := 7) (d := 22) (want := true) rfl rfl (by rw [tmp_put_ne _ _ _ _ (by decide), tmp_put_ne _ _ _ _ (by decide), tmp_put_ne _ _ _ _ (by decide), tmp_put_ne _ _ _ _ (by decide), tmp_put_same _ _ _ (by (repeat rw [Act.size_put]); omega)]; rfl)) ?_
        refine anyS_off (i := 13) (d := some 28) hS rfl rfl (by kernel_rfl) (by kernel_rfl) (by kernel_rfl) (fun _ _ _ h => h) (wanted_off (j := 7) (d := 22) (want := true) rfl rfl (by rw [tmp_put_ne _ _ _ _ (by decide), tmp_put_ne _ _ _ _ (by decide), tmp_put_ne _ _ _ _ (by decide), tmp_put_ne _ _ _ _ (by decide), tmp_put_ne _ _ _ _ (by decide), tmp_put_same _ _ _ (by (repeat rw [Act.size_put]); omega)]; rfl)) ?_
        refine anyS_off (i := 14) (d := some 29) hS rfl rfl (by kernel_rfl) (by kernel_rfl) (by kernel_rfl) (fun _ _ _ h => h) (wanted_off (j := 7) (d := 22) (want := true) rfl rfl (by rw [tmp_put_ne _ _ _ _ (by decide), tmp_put_ne _ _ _ _ (by decide), tmp_put_ne _ _ _ _ (by decide), tmp_put_ne _ _ _ _ (by decide), tmp_put_ne _ _ _ _ (by decide), tmp_put_ne _ _ _ _ (by decide), tmp_put_same _ _ _ (by (repeat rw [Act.size_put]); omega)]; rfl)) ?_
        refine anyS_take (i := 15) (d := some 30) (v := .bool false) hS rfl rfl (by kernel_rfl) (by kernel_rfl) (by kernel_rfl) (fun _ _ _ h => h) (by rfl) ?_ ?_
        · intro w9 hSw
          generalize hρ : Act.eval _ = ρ
          have e22 : ρ (.tmp 22) = .bool false := by rw [← hρ, Act.eval_put_ne _ _ _ _ (by decide), Act.eval_put_ne _ _ _ _ (by decide), Act.eval_put_ne _ _ _ _ (by decide), Act.eval_put_ne _ _ _ _ (by decide), Act.eval_put_ne _ _ _ _ (by decide), Act.eval_put_ne _ _ _ _ (by decide), Act.eval_put_ne _ _ _ _ (by decide), Act.eval_put_same _ _ _ (by (repeat rw [Act.size_put]); omega)]
          have e29 : ρ (.tmp 29) = undef := by rw [← hρ, Act.eval_put_same _ _ _ (by (repeat rw [Act.size_put]); omega)]
          obtain ⟨ec, ef⟩ := ev_cf hρ
          clear hρ
          simp only [List.getElem_toArray, List.getElem_cons_zero, List.getElem_cons_succ]
          clear hSw
          go_simp
        refine wpAnyH_done (by kernel_rfl) ?_ _
        subst hA0
        simp only [Act.put, List.setIfInBounds_toArray, List.set_cons_zero, List.set_cons_succ]
        clear hS
        rw [HE0.out] at hA5
        go_wp2_with fail
        refine ⟨⟨k + 1, by omega, by go_num, hA5⟩, by simp [intOf]; omega⟩
      · cases hb : inR N xb
        · have HE1 : Hid (ofFn N (l.take k) = ofFn N (l.take (k + 1))) := by
            show _ = _
            rw [← ofFn_take (N := N) hx]
            unfold putF
            rw [ha, hb]
            rfl
          go_wp2_with fail
          generalize hA0 : Act.mk _ _ = a0
          have hsz : a0.tmps.size = 47 := by rw [← hA0]; rfl
          have b5 : Act.eval a0 (.tmp 5) = pv B := by rw [← hA0]; rfl
          have b6 : Act.eval a0 (.tmp 6) = .int .i64 ((k : Nat) : Int) := by rw [← hA0]; rfl
          have b1 : Act.eval a0 (.tmp 1) = .slice (some ⟨s, o, none⟩) l.length cap := by rw [← hA0]; rfl
          refine wp_region_held_drew (S := (fun W' => ∃ F', MkAt w W' 1 [(0, #[.int .i64 0, .slice none 0 0])] B N (.slice x2 y2 z2) rbw F')) (by kernel_rfl) ⟨_, hA.drew⟩ (fun hS => ?_)
          refine anyS_take (i := 0) (d := some 15) (v := .agg #[.int .i64 ((N : Nat) : Int), .slice x2 y2 z2]) hS rfl rfl (by kernel_rfl) (by kernel_rfl) (by kernel_rfl) (fun _ _ _ h => h) (by rfl) ?_ ?_
          · intro w9 hSw
            have e5 := b5
            have ec : ∀ v, Act.eval a0 (.const v) = v := fun _ => rfl
            have ef : ∀ f, Act.eval a0 (.func f) = .func (.func f) #[] #[] := fun _ => rfl
            generalize Act.eval a0 = ρ at *
            simp only [List.getElem_toArray, List.getElem_cons_zero]
            obtain ⟨F9, hA9⟩ := hSw
            have k0 := hA9.box.cell (j := 0) rfl
            have k1 := hA9.box.cell (j := 1) rfl
            go_simp
          refine anyS_take (i := 1) (d := some 16) (v := .slice (some ⟨s, o, none⟩) l.length cap) hS rfl rfl (by kernel_rfl) (by kernel_rfl) (by kernel_rfl) (fun _ _ _ h => h) (by rfl) ?_ ?_
          · intro w9 hSw
            generalize hρ : Act.eval _ = ρ
            have e1 : ρ (.tmp 1) = .slice (some ⟨s, o, none⟩) l.length cap := by rw [← hρ, Act.eval_put_ne _ _ _ _ (by decide), b1]
            obtain ⟨ec, ef⟩ := ev_cf hρ
            clear hρ
            simp only [List.getElem_toArray, List.getElem_cons_zero, List.getElem_cons_succ]
            clear hSw
            go_simp
          refine anyS_take (i := 2) (d := some 17) (v := .int .i64 ((k : Nat) : Int)) hS rfl rfl (by kernel_rfl) (by kernel_rfl) (by kernel_rfl) (fun _ _ _ h => h) (by rfl) ?_ ?_
          · intro w9 hSw
            generalize hρ : Act.eval _ = ρ
            have e6 : ρ (.tmp 6) = .int .i64 ((k : Nat) : Int) := by rw [← hρ, Act.eval_put_ne _ _ _ _ (by decide), Act.eval_put_ne _ _ _ _ (by decide), b6]
            obtain ⟨ec, ef⟩ := ev_cf hρ
            clear hρ
            simp only [List.getElem_toArray, List.getElem_cons_zero, List.getElem_cons_succ]
            clear hSw
            go_simp
          refine anyS_take (i := 3) (d := some 18) (v := .pointer (some ⟨s, o + k * 2, none⟩)) hS rfl rfl (by kernel_rfl) (by kernel_rfl) (by kernel_rfl) (fun _ _ _ h => h) (by rfl) ?_ ?_
          · intro w9 hSw
            generalize hρ : Act.eval _ = ρ
            have e16 : ρ (.tmp 16) = .slice (some ⟨s, o, none⟩) l.length cap := by rw [← hρ, Act.eval_put_ne _ _ _ _ (by decide), Act.eval_put_same _ _ _ (by (repeat rw [Act.size_put]); omega)]
            have e17 : ρ (.tmp 17) = .int .i64 ((k : Nat) : Int) := by rw [← hρ, Act.eval_put_same _ _ _ (by (repeat rw [Act.size_put]); omega)]
            obtain ⟨ec, ef⟩ := ev_cf hρ
            clear hρ
            simp only [List.getElem_toArray, List.getElem_cons_zero, List.getElem_cons_succ]
            clear hSw
            go_simp
          refine anyS_take (i := 4) (d := some 19) (v := .pointer (some ⟨s, o + k * 2, none⟩)) hS rfl rfl (by kernel_rfl) (by kernel_rfl) (by kernel_rfl) (fun _ _ _ h => h) (by rfl) ?_ ?_
          · intro w9 hSw
            generalize hρ : Act.eval _ = ρ
            have e18 : ρ (.tmp 18) = .pointer (some ⟨s, o + k * 2, none⟩) := by rw [← hρ, Act.eval_put_same _ _ _ (by (repeat rw [Act.size_put]); omega)]
            obtain ⟨ec, ef⟩ := ev_cf hρ
            clear hρ
            simp only [List.getElem_toArray, List.getElem_cons_zero, List.getElem_cons_succ]
            clear hSw
            go_simp
          refine anyS_take (i := 5) (d := some 20) (v := .int .i64 xa) hS rfl rfl (by kernel_rfl) (by kernel_rfl) (by kernel_rfl) (fun _ _ _ h => h) (by rfl) ?_ ?_
          · intro w9 hSw
            generalize hρ : Act.eval _ = ρ
            have e19 : ρ (.tmp 19) = .pointer (some ⟨s, o + k * 2, none⟩) := by rw [← hρ, Act.eval_put_same _ _ _ (by (repeat rw [Act.size_put]); omega)]
            obtain ⟨ec, ef⟩ := ev_cf hρ
            clear hρ
            simp only [List.getElem_toArray, List.getElem_cons_zero, List.getElem_cons_succ]
            obtain ⟨F9, hA9⟩ := hSw
            have k0 := (hPA.below hA9.below).fst k _ hx
            go_simp
          refine wpAnyH_ready (rs := [6]) (by kernel_rfl) (by simp) ?_
          refine anyS_enter (i := 6) (d := some 21) (f := 121) (args := #[.agg #[.int .i64 ((N : Nat) : Int), .slice x2 y2 z2], .int .i64 xa]) (w' := wr.drew) rfl rfl (by rfl) ?_ ?_ AllReadyH.nil
          · skip
            generalize hρ : Act.eval _ = ρ
            have e15 : ρ (.tmp 15) = .agg #[.int .i64 ((N : Nat) : Int), .slice x2 y2 z2] := by rw [← hρ, Act.eval_put_ne _ _ _ _ (by decide), Act.eval_put_ne _ _ _ _ (by decide), Act.eval_put_ne _ _ _ _ (by decide), Act.eval_put_ne _ _ _ _ (by decide), Act.eval_put_ne _ _ _ _ (by decide), Act.eval_put_same _ _ _ (by (repeat rw [Act.size_put]); omega)]
            have e20 : ρ (.tmp 20) = .int .i64 xa := by rw [← hρ, Act.eval_put_same _ _ _ (by (repeat rw [Act.size_put]); omega)]
            obtain ⟨ec, ef⟩ := ev_cf hρ
            clear hρ
            simp only [List.getElem_toArray, List.getElem_cons_zero, List.getElem_cons_succ]
            go_simp
          refine (refinT true N x2 y2 z2 xa _ ha).mono ?_
          rintro e w5 ⟨rfl, hB5⟩
          have hA5 := hA.drew.step hB5
          refine ⟨_, rfl, ⟨_, hA5⟩, ?_⟩
          clear hS
          have hS : ∃ F', MkAt w w5 1 [(0, #[.int .i64 0, .slice none 0 0])] B N (.slice x2 y2 z2) rbw F' := ⟨_, hA5⟩
          refine anyS_take (i := 7) (d := some 22) (v := .bool true) hS rfl rfl (by kernel_rfl) (by kernel_rfl) (by kernel_rfl) (fun _ _ _ h => h) (by rfl) ?_ ?_
          · intro w9 hSw
            generalize hρ : Act.eval _ = ρ
            have e21 : ρ (.tmp 21) = .bool true := by rw [← hρ, Act.eval_put_same _ _ _ (by (repeat rw [Act.size_put]); omega)]
            obtain ⟨ec, ef⟩ := ev_cf hρ
            clear hρ
            simp only [List.getElem_toArray, List.getElem_cons_zero, List.getElem_cons_succ]
            clear hSw
            go_simp
          refine anyS_take (i := 8) (d := some 23) (v := .agg #[.int .i64 ((N : Nat) : Int), .slice x2 y2 z2]) hS rfl rfl (by kernel_rfl) (by kernel_rfl) (by kernel_rfl) (fun _ _ _ h => h) (wanted_guard (j := 7) (d := 22) (want := true) rfl rfl (by rw [tmp_put_same _ _ _ (by (repeat rw [Act.size_put]); omega)])) ?_ ?_
          · intro w9 hSw
            generalize hρ : Act.eval _ = ρ
            have e5 : ρ (.tmp 5) = pv B := by rw [← hρ, Act.eval_put_ne _ _ _ _ (by decide), Act.eval_put_ne _ _ _ _ (by decide), Act.eval_put_ne _ _ _ _ (by decide), Act.eval_put_ne _ _ _ _ (by decide), Act.eval_put_ne _ _ _ _ (by decide), Act.eval_put_ne _ _ _ _ (by decide), Act.eval_put_ne _ _ _ _ (by decide), Act.eval_put_ne _ _ _ _ (by decide), b5]
            obtain ⟨ec, ef⟩ := ev_cf hρ
            clear hρ
            simp only [List.getElem_toArray, List.getElem_cons_zero, List.getElem_cons_succ]
            obtain ⟨F9, hA9⟩ := hSw
            have k0 := hA9.box.cell (j := 0) rfl
            have k1 := hA9.box.cell (j := 1) rfl
            go_simp
          refine anyS_take (i := 9) (d := some 24) (v := .slice (some ⟨s, o, none⟩) l.length cap) hS rfl rfl (by kernel_rfl) (by kernel_rfl) (by kernel_rfl) (fun _ _ _ h => h) (wanted_guard (j := 7) (d := 22) (want := true) rfl rfl (by rw [tmp_put_ne _ _ _ _ (by decide), tmp_put_same _ _ _ (by (repeat rw [Act.size_put]); omega)])) ?_ ?_
          · intro w9 hSw
            generalize hρ : Act.eval _ = ρ
            have e1 : ρ (.tmp 1) = .slice (some ⟨s, o, none⟩) l.length cap := by rw [← hρ, Act.eval_put_ne _ _ _ _ (by decide), Act.eval_put_ne _ _ _ _ (by decide), Act.eval_put_ne _ _ _ _ (by decide), Act.eval_put_ne _ _ _ _ (by decide), Act.eval_put_ne _ _ _ _ (by decide), Act.eval_put_ne _ _ _ _ (by decide), Act.eval_put_ne _ _ _ _ (by decide), Act.eval_put_ne _ _ _ _ (by decide), Act.eval_put_ne _ _ _ _ (by decide), b1]
            obtain ⟨ec, ef⟩ := ev_cf hρ
            clear hρ
            simp only [List.getElem_toArray, List.getElem_cons_zero, List.getElem_cons_succ]
            clear hSw
            go_simp
          refine anyS_take (i := 10) (d := some 25) (v := .int .i64 ((k : Nat) : Int)) hS rfl rfl (by kernel_rfl) (by kernel_rfl) (by kernel_rfl) (fun _ _ _ h => h) (wanted_guard (j := 7) (d := 22) (want := true) rfl rfl (by rw [tmp_put_ne _ _ _ _ (by decide), tmp_put_ne _ _ _ _ (by decide), tmp_put_same _ _ _ (by (repeat rw [Act.size_put]); omega)])) ?_ ?_
          · intro w9 hSw
            generalize hρ : Act.eval _ = ρ
            have e6 : ρ (.tmp 6) = .int .i64 ((k : Nat) : Int) := by rw [← hρ, Act.eval_put_ne _ _ _ _ (by decide), Act.eval_put_ne _ _ _ _ (by decide), Act.eval_put_ne _ _ _ _ (by decide), Act.eval_put_ne _ _ _ _ (by decide), Act.eval_put_ne _ _ _ _ (by decide), Act.eval_put_ne _ _ _ _ (by decide), Act.eval_put_ne _ _ _ _ (by decide), Act.eval_put_ne _ _ _ _ (by decide), Act.eval_put_ne _ _ _ _ (by decide), Act.eval_put_ne _ _ _ _ (by decide), b6]
            obtain ⟨ec, ef⟩ := ev_cf hρ
            clear hρ
            simp only [List.getElem_toArray, List.getElem_cons_zero, List.getElem_cons_succ]
            clear hSw
            go_simp
          refine anyS_take (i := 11) (d := some 26) (v := .pointer (some ⟨s, o + k * 2, none⟩)) hS rfl rfl (by kernel_rfl) (by kernel_rfl) (by kernel_rfl) (fun _ _ _ h => h) (wanted_guard (j := 7) (d := 22) (want := true) rfl rfl (by rw [tmp_put_ne _ _ _ _ (by decide), tmp_put_ne _ _ _ _ (by decide), tmp_put_ne _ _ _ _ (by decide), tmp_put_same _ _ _ (by (repeat rw [Act.size_put]); omega)])) ?_ ?_
          · intro w9 hSw
            generalize hρ : Act.eval _ = ρ
            have e24 : ρ (.tmp 24) = .slice (some ⟨s, o, none⟩) l.length cap := by rw [← hρ, Act.eval_put_ne _ _ _ _ (by decide), Act.eval_put_same _ _ _ (by (repeat rw [Act.size_put]); omega)]
            have e25 : ρ (.tmp 25) = .int .i64 ((k : Nat) : Int) := by rw [← hρ, Act.eval_put_same _ _ _ (by (repeat rw [Act.size_put]); omega)]
            obtain ⟨ec, ef⟩ := ev_cf hρ
            clear hρ
            simp only [List.getElem_toArray, List.getElem_cons_zero, List.getElem_cons_succ]
            clear hSw
            go_simp
          refine anyS_take (i := 12) (d := some 27) (v := .pointer (some ⟨s, o + k * 2 + 1, none⟩)) hS rfl rfl (by kernel_rfl) (by kernel_rfl) (by kernel_rfl) (fun _ _ _ h => h) (wanted_guard (j := 7) (d := 22) (want := true) rfl rfl (by rw [tmp_put_ne _ _ _ _ (by decide), tmp_put_ne _ _ _ _ (by decide), tmp_put_ne _ _ _ _ (by decide), tmp_put_ne _ _ _ _ (by decide), tmp_put_same _ _ _ (by (repeat rw [Act.size_put]); omega)])) ?_ ?_
          · intro w9 hSw
            generalize hρ : Act.eval _ = ρ
            have e26 : ρ (.tmp 26) = .pointer (some ⟨s, o + k * 2, none⟩) := by rw [← hρ, Act.eval_put_same _ _ _ (by (repeat rw [Act.size_put]); omega)]
            obtain ⟨ec, ef⟩ := ev_cf hρ
            clear hρ
            simp only [List.getElem_toArray, List.getElem_cons_zero, List.getElem_cons_succ]
            clear hSw
            go_simp
          refine anyS_take (i := 13) (d := some 28) (v := .int .i64 xb) hS rfl rfl (by kernel_rfl) (by kernel_rfl) (by kernel_rfl) (fun _ _ _ h => h) (wanted_guard (j := 7) (d := 22) (want := true) rfl rfl (by rw [tmp_put_ne _ _ _ _ (by decide), tmp_put_ne _ _ _ _ (by decide), tmp_put_ne _ _ _ _ (by decide), tmp_put_ne _ _ _ _ (by decide), tmp_put_ne _ _ _ _ (by decide), tmp_put_same _ _ _ (by (repeat rw [Act.size_put]); omega)])) ?_ ?_
          · intro w9 hSw
            generalize hρ : Act.eval _ = ρ
            have e27 : ρ (.tmp 27) = .pointer (some ⟨s, o + k * 2 + 1, none⟩) := by rw [← hρ, Act.eval_put_same _ _ _ (by (repeat rw [Act.size_put]); omega)]
            obtain ⟨ec, ef⟩ := ev_cf hρ
            clear hρ
            simp only [List.getElem_toArray, List.getElem_cons_zero, List.getElem_cons_succ]
            obtain ⟨F9, hA9⟩ := hSw
            have k0 := (hPA.below hA9.below).snd k _ hx
            go_simp
          refine wpAnyH_ready (rs := [14]) (by kernel_rfl) (by simp) ?_
          refine anyS_enter (i := 14) (d := some 29) (f := 121) (args := #[.agg #[.int .i64 ((N : Nat) : Int), .slice x2 y2 z2], .int .i64 xb]) (w' := w5) rfl rfl (wanted_guard (j := 7) (d := 22) (want := true) rfl rfl (by rw [tmp_put_ne _ _ _ _ (by decide), tmp_put_ne _ _ _ _ (by decide), tmp_put_ne _ _ _ _ (by decide), tmp_put_ne _ _ _ _ (by decide), tmp_put_ne _ _ _ _ (by decide), tmp_put_ne _ _ _ _ (by decide), tmp_put_same _ _ _ (by (repeat rw [Act.size_put]); omega)])) ?_ ?_ AllReadyH.nil
          · skip
            generalize hρ : Act.eval _ = ρ
            have e23 : ρ (.tmp 23) = .agg #[.int .i64 ((N : Nat) : Int), .slice x2 y2 z2] := by rw [← hρ, Act.eval_put_ne _ _ _ _ (by decide), Act.eval_put_ne _ _ _ _ (by decide), Act.eval_put_ne _ _ _ _ (by decide), Act.eval_put_ne _ _ _ _ (by decide), Act.eval_put_ne _ _ _ _ (by decide), Act.eval_put_same _ _ _ (by (repeat rw [Act.size_put]); omega)]
            have e28 : ρ (.tmp 28) = .int .i64 xb := by rw [← hρ, Act.eval_put_same _ _ _ (by (repeat rw [Act.size_put]); omega)]
            obtain ⟨ec, ef⟩ := ev_cf hρ
            clear hρ
            simp only [List.getElem_toArray, List.getElem_cons_zero, List.getElem_cons_succ]
            go_simp
          refine (refinT false N x2 y2 z2 xb _ hb).mono ?_
          rintro e w6 ⟨rfl, hB6⟩
          have hA6 := hA5.step hB6
          refine ⟨_, rfl, ⟨_, hA6⟩, ?_⟩
          clear hS
          have hS : ∃ F', MkAt w w6 1 [(0, #[.int .i64 0, .slice none 0 0])] B N (.slice x2 y2 z2) rbw F' := ⟨_, hA6⟩
          refine anyS_take (i := 15) (d := some 30) (v := .bool false) hS rfl rfl (by kernel_rfl) (by kernel_rfl) (by kernel_rfl) (fun _ _ _ h => h) (by rfl) ?_ ?_
          · intro w9 hSw
            generalize hρ : Act.eval _ = ρ
            have e22 : ρ (.tmp 22) = .bool true := by rw [← hρ, Act.eval_put_ne _ _ _ _ (by decide), Act.eval_put_ne _ _ _ _ (by decide), Act.eval_put_ne _ _ _ _ (by decide), Act.eval_put_ne _ _ _ _ (by decide), Act.eval_put_ne _ _ _ _ (by decide), Act.eval_put_ne _ _ _ _ (by decide), Act.eval_put_ne _ _ _ _ (by decide), Act.eval_put_same _ _ _ (by (repeat rw [Act.size_put]); omega)]
            have e29 : ρ (.tmp 29) = .bool false := by rw [← hρ, Act.eval_put_same _ _ _ (by (repeat rw [Act.size_put]); omega)]
            obtain ⟨ec, ef⟩ := ev_cf hρ
            clear hρ
            simp only [List.getElem_toArray, List.getElem_cons_zero, List.getElem_cons_succ]
            clear hSw
            go_simp
          refine wpAnyH_done (by kernel_rfl) ?_ _
          subst hA0
          simp only [Act.put, List.setIfInBounds_toArray, List.set_cons_zero, List.set_cons_succ]
          clear hS
          rw [HE1.out] at hA6
          go_wp2_with fail
          refine ⟨⟨k + 1, by omega, by go_num, hA6⟩, by simp [intOf]; omega⟩
        · have HE2 : Hid (upd (ofFn N (l.take k)) xa.toNat xb.toNat true = ofFn N (l.take (k + 1))) := by
            show _ = _
            rw [← ofFn_take (N := N) hx]
            unfold putF
            rw [ha, hb]
            rfl
          go_wp2_with fail
          generalize hA0 : Act.mk _ _ = a0
          have hsz : a0.tmps.size = 47 := by rw [← hA0]; rfl
          have b5 : Act.eval a0 (.tmp 5) = pv B := by rw [← hA0]; rfl
          have b6 : Act.eval a0 (.tmp 6) = .int .i64 ((k : Nat) : Int) := by rw [← hA0]; rfl
          have b1 : Act.eval a0 (.tmp 1) = .slice (some ⟨s, o, none⟩) l.length cap := by rw [← hA0]; rfl
          refine wp_region_held_drew (S := (fun W' => ∃ F', MkAt w W' 1 [(0, #[.int .i64 0, .slice none 0 0])] B N (.slice x2 y2 z2) rbw F')) (by kernel_rfl) ⟨_, hA.drew⟩ (fun hS => ?_)
          refine anyS_take (i := 0) (d := some 15) (v := .agg #[.int .i64 ((N : Nat) : Int), .slice x2 y2 z2]) hS rfl rfl (by kernel_rfl) (by kernel_rfl) (by kernel_rfl) (fun _ _ _ h => h) (by rfl) ?_ ?_
          · intro w9 hSw
            have e5 := b5
            have ec : ∀ v, Act.eval a0 (.const v) = v := fun _ => rfl
            have ef : ∀ f, Act.eval a0 (.func f) = .func (.func f) #[] #[] := fun _ => rfl
            generalize Act.eval a0 = ρ at *
            simp only [List.getElem_toArray, List.getElem_cons_zero]
            obtain ⟨F9, hA9⟩ := hSw
            have k0 := hA9.box.cell (j := 0) rfl
            have k1 := hA9.box.cell (j := 1) rfl
            go_simp
          refine anyS_take (i := 1) (d := some 16) (v := .slice (some ⟨s, o, none⟩) l.length cap) hS rfl rfl (by kernel_rfl) (by kernel_rfl) (by kernel_rfl) (fun _ _ _ h => h) (by rfl) ?_ ?_
          · intro w9 hSw
            generalize hρ : Act.eval _ = ρ
            have e1 : ρ (.tmp 1) = .slice (some ⟨s, o, none⟩) l.length cap := by rw [← hρ, Act.eval_put_ne _ _ _ _ (by decide), b1]
            obtain ⟨ec, ef⟩ := ev_cf hρ
            clear hρ
            simp only [List.getElem_toArray, List.getElem_cons_zero, List.getElem_cons_succ]
            clear hSw
            go_simp
          refine anyS_take (i := 2) (d := some 17) (v := .int .i64 ((k : Nat) : Int)) hS rfl rfl (by kernel_rfl) (by kernel_rfl) (by kernel_rfl) (fun _ _ _ h => h) (by rfl) ?_ ?_
          · intro w9 hSw
            generalize hρ : Act.eval _ = ρ
            have e6 : ρ (.tmp 6) = .int .i64 ((k : Nat) : Int) := by rw [← hρ, Act.eval_put_ne _ _ _ _ (by decide), Act.eval_put_ne _ _ _ _ (by decide), b6]
            obtain ⟨ec, ef⟩ := ev_cf hρ
            clear hρ
            simp only [List.getElem_toArray, List.getElem_cons_zero, List.getElem_cons_succ]
            clear hSw
            go_simp
          refine anyS_take (i := 3) (d := some 18) (v := .pointer (some ⟨s, o + k * 2, none⟩)) hS rfl rfl (by kernel_rfl) (by kernel_rfl) (by kernel_rfl) (fun _ _ _ h => h) (by rfl) ?_ ?_
          · intro w9 hSw
            generalize hρ : Act.eval _ = ρ
            have e16 : ρ (.tmp 16) = .slice (some ⟨s, o, none⟩) l.length cap := by rw [← hρ, Act.eval_put_ne _ _ _ _ (by decide), Act.eval_put_same _ _ _ (by (repeat rw [Act.size_put]); omega)]
            have e17 : ρ (.tmp 17) = .int .i64 ((k : Nat) : Int) := by rw [← hρ, Act.eval_put_same _ _ _ (by (repeat rw [Act.size_put]); omega)]
            obtain ⟨ec, ef⟩ := ev_cf hρ
            clear hρ
            simp only [List.getElem_toArray, List.getElem_cons_zero, List.getElem_cons_succ]
            clear hSw
            go_simp
          refine anyS_take (i := 4) (d := some 19) (v := .pointer (some ⟨s, o + k * 2, none⟩)) hS rfl rfl (by kernel_rfl) (by kernel_rfl) (by kernel_rfl) (fun _ _ _ h => h) (by rfl) ?_ ?_
          · intro w9 hSw
            generalize hρ : Act.eval _ = ρ
            have e18 : ρ (.tmp 18) = .pointer (some ⟨s, o + k * 2, none⟩) := by rw [← hρ, Act.eval_put_same _ _ _ (by (repeat rw [Act.size_put]); omega)]
            obtain ⟨ec, ef⟩ := ev_cf hρ
            clear hρ
            simp only [List.getElem_toArray, List.getElem_cons_zero, List.getElem_cons_succ]
            clear hSw
            go_simp
          refine anyS_take (i := 5) (d := some 20) (v := .int .i64 xa) hS rfl rfl (by kernel_rfl) (by kernel_rfl) (by kernel_rfl) (fun _ _ _ h => h) (by rfl) ?_ ?_
          · intro w9 hSw
            generalize hρ : Act.eval _ = ρ
            have e19 : ρ (.tmp 19) = .pointer (some ⟨s, o + k * 2, none⟩) := by rw [← hρ, Act.eval_put_same _ _ _ (by (repeat rw [Act.size_put]); omega)]
            obtain ⟨ec, ef⟩ := ev_cf hρ
            clear hρ
            simp only [List.getElem_toArray, List.getElem_cons_zero, List.getElem_cons_succ]
            obtain ⟨F9, hA9⟩ := hSw
            have k0 := (hPA.below hA9.below).fst k _ hx
            go_simp
          refine wpAnyH_ready (rs := [6]) (by kernel_rfl) (by simp) ?_
          refine anyS_enter (i := 6) (d := some 21) (f := 121) (args := #[.agg #[.int .i64 ((N : Nat) : Int), .slice x2 y2 z2], .int .i64 xa]) (w' := wr.drew) rfl rfl (by rfl) ?_ ?_ AllReadyH.nil
          · skip
            generalize hρ : Act.eval _ = ρ
            have e15 : ρ (.tmp 15) = .agg #[.int .i64 ((N : Nat) : Int), .slice x2 y2 z2] := by rw [← hρ, Act.eval_put_ne _ _ _ _ (by decide), Act.eval_put_ne _ _ _ _ (by decide), Act.eval_put_ne _ _ _ _ (by decide), Act.eval_put_ne _ _ _ _ (by decide), Act.eval_put_ne _ _ _ _ (by decide), Act.eval_put_same _ _ _ (by (repeat rw [Act.size_put]); omega)]
            have e20 : ρ (.tmp 20) = .int .i64 xa := by rw [← hρ, Act.eval_put_same _ _ _ (by (repeat rw [Act.size_put]); omega)]
            obtain ⟨ec, ef⟩ := ev_cf hρ
            clear hρ
            simp only [List.getElem_toArray, List.getElem_cons_zero, List.getElem_cons_succ]
            go_simp
          refine (refinT true N x2 y2 z2 xa _ ha).mono ?_
          rintro e w5 ⟨rfl, hB5⟩
          have hA5 := hA.drew.step hB5
          refine ⟨_, rfl, ⟨_, hA5⟩, ?_⟩
          clear hS
          have hS : ∃ F', MkAt w w5 1 [(0, #[.int .i64 0, .slice none 0 0])] B N (.slice x2 y2 z2) rbw F' := ⟨_, hA5⟩
          refine anyS_take (i := 7) (d := some 22) (v := .bool true) hS rfl rfl (by kernel_rfl) (by kernel_rfl) (by kernel_rfl) (fun _ _ _ h => h) (by rfl) ?_ ?_
          · intro w9 hSw
            generalize hρ : Act.eval _ = ρ
            have e21 : ρ (.tmp 21) = .bool true := by rw [← hρ, Act.eval_put_same _ _ _ (by (repeat rw [Act.size_put]); omega)]
            obtain ⟨ec, ef⟩ := ev_cf hρ
            clear hρ
            simp only [List.getElem_toArray, List.getElem_cons_zero, List.getElem_cons_succ]
            clear hSw
            go_simp
          refine anyS_take (i := 8) (d := some 23) (v := .agg #[.int .i64 ((N : Nat) : Int), .slice x2 y2 z2]) hS rfl rfl (by kernel_rfl) (by kernel_rfl) (by kernel_rfl) (fun _ _ _ h => h) (wanted_guard (j := 7) (d := 22) (want := true) rfl rfl (by rw [tmp_put_same _ _ _ (by (repeat rw [Act.size_put]); omega)])) ?_ ?_
          · intro w9 hSw
            generalize hρ : Act.eval _ = ρ
            have e5 : ρ (.tmp 5) = pv B := by rw [← hρ, Act.eval_put_ne _ _ _ _ (by decide), Act.eval_put_ne _ _ _ _ (by decide), Act.eval_put_ne _ _ _ _ (by decide), Act.eval_put_ne _ _ _ _ (by decide), Act.eval_put_ne _ _ _ _ (by decide), Act.eval_put_ne _ _ _ _ (by decide), Act.eval_put_ne _ _ _ _ (by decide), Act.eval_put_ne _ _ _ _ (by decide), b5]
            obtain ⟨ec, ef⟩ := ev_cf hρ
            clear hρ
            simp only [List.getElem_toArray, List.getElem_cons_zero, List.getElem_cons_succ]
            obtain ⟨F9, hA9⟩ := hSw
            have k0 := hA9.box.cell (j := 0) rfl
            have k1 := hA9.box.cell (j := 1) rfl
            go_simp
          refine anyS_take (i := 9) (d := some 24) (v := .slice (some ⟨s, o, none⟩) l.length cap) hS rfl rfl (by kernel_rfl) (by kernel_rfl) (by kernel_rfl) (fun _ _ _ h => h) (wanted_guard (j := 7) (d := 22) (want := true) rfl rfl (by rw [tmp_put_ne _ _ _ _ (by decide), tmp_put_same _ _ _ (by (repeat rw [Act.size_put]); omega)])) ?_ ?_
          · intro w9 hSw
            generalize hρ : Act.eval _ = ρ
            have e1 : ρ (.tmp 1) = .slice (some ⟨s, o, none⟩) l.length cap := by rw [← hρ, Act.eval_put_ne _ _ _ _ (by decide), Act.eval_put_ne _ _ _ _ (by decide), Act.eval_put_ne _ _ _ _ (by decide), Act.eval_put_ne _ _ _ _ (by decide), Act.eval_put_ne _ _ _ _ (by decide), Act.eval_put_ne _ _ _ _ (by decide), Act.eval_put_ne _ _ _ _ (by decide), Act.eval_put_ne _ _ _ _ (by decide), Act.eval_put_ne _ _ _ _ (by decide), b1]
            obtain ⟨ec, ef⟩ := ev_cf hρ
            clear hρ
            simp only [List.getElem_toArray, List.getElem_cons_zero, List.getElem_cons_succ]
            clear hSw
            go_simp
          refine anyS_take (i := 10) (d := some 25) (v := .int .i64 ((k : Nat) : Int)) hS rfl rfl (by kernel_rfl) (by kernel_rfl) (by kernel_rfl) (fun _ _ _ h => h) (wanted_guard (j := 7) (d := 22) (want := true) rfl rfl (by rw [tmp_put_ne _ _ _ _ (by decide), tmp_put_ne _ _ _ _ (by decide), tmp_put_same _ _ _ (by (repeat rw [Act.size_put]); omega)])) ?_ ?_
          · intro w9 hSw
            generalize hρ : Act.eval _ = ρ
            have e6 : ρ (.tmp 6) = .int .i64 ((k : Nat) : Int) := by rw [← hρ, Act.eval_put_ne _ _ _ _ (by decide), Act.eval_put_ne _ _ _ _ (by decide), Act.eval_put_ne _ _ _ _ (by decide), Act.eval_put_ne _ _ _ _ (by decide), Act.eval_put_ne _ _ _ _ (by decide), Act.eval_put_ne _ _ _ _ (by decide), Act.eval_put_ne _ _ _ _ (by decide), Act.eval_put_ne _ _ _ _ (by decide), Act.eval_put_ne _ _ _ _ (by decide), Act.eval_put_ne _ _ _ _ (by decide), b6]
            obtain ⟨ec, ef⟩ := ev_cf hρ
            clear hρ
            simp only [List.getElem_toArray, List.getElem_cons_zero, List.getElem_cons_succ]
            clear hSw
            go_simp
          refine anyS_take (i := 11) (d := some 26) (v := .pointer (some ⟨s, o + k * 2, none⟩)) hS rfl rfl (by kernel_rfl) (by kernel_rfl) (by kernel_rfl) (fun _ _ _ h => h) (wanted_guard (j := 7) (d := 22) (want := true) rfl rfl (by rw [tmp_put_ne _ _ _ _ (by decide), tmp_put_ne _ _ _ _ (by decide), tmp_put_ne _ _ _ _ (by decide), tmp_put_same _ _ _ (by (repeat rw [Act.size_put]); omega)])) ?_ ?_
          · intro w9 hSw
            generalize hρ : Act.eval _ = ρ
            have e24 : ρ (.tmp 24) = .slice (some ⟨s, o, none⟩) l.length cap := by rw [← hρ, Act.eval_put_ne _ _ _ _ (by decide), Act.eval_put_same _ _ _ (by (repeat rw [Act.size_put]); omega)]
            have e25 : ρ (.tmp 25) = .int .i64 ((k : Nat) : Int) := by rw [← hρ, Act.eval_put_same _ _ _ (by (repeat rw [Act.size_put]); omega)]
            obtain ⟨ec, ef⟩ := ev_cf hρ
            clear hρ
            simp only [List.getElem_toArray, List.getElem_cons_zero, List.getElem_cons_succ]
            clear hSw
            go_simp
          refine anyS_take (i := 12) (d := some 27) (v := .pointer (some ⟨s, o + k * 2 + 1, none⟩)) hS rfl rfl (by kernel_rfl) (by kernel_rfl) (by kernel_rfl) (fun _ _ _ h => h) (wanted_guard (j := 7) (d := 22) (want := true) rfl rfl (by rw [tmp_put_ne _ _ _ _ (by decide), tmp_put_ne _ _ _ _ (by decide), tmp_put_ne _ _ _ _ (by decide), tmp_put_ne _ _ _ _ (by decide), tmp_put_same _ _ _ (by (repeat rw [Act.size_put]); omega)])) ?_ ?_
          · intro w9 hSw
            generalize hρ : Act.eval _ = ρ
            have e26 : ρ (.tmp 26) = .pointer (some ⟨s, o + k * 2, none⟩) := by rw [← hρ, Act.eval_put_same _ _ _ (by (repeat rw [Act.size_put]); omega)]
            obtain ⟨ec, ef⟩ := ev_cf hρ
            clear hρ
            simp only [List.getElem_toArray, List.getElem_cons_zero, List.getElem_cons_succ]
            clear hSw
            go_simp
          refine anyS_take (i := 13) (d := some 28) (v := .int .i64 xb) hS rfl rfl (by kernel_rfl) (by kernel_rfl) (by kernel_rfl) (fun _ _ _ h => h) (wanted_guard (j := 7) (d := 22) (want := true) rfl rfl (by rw [tmp_put_ne _ _ _ _ (by decide), tmp_put_ne _ _ _ _ (by decide), tmp_put_ne _ _ _ _ (by decide), tmp_put_ne _ _ _ _ (by decide), tmp_put_ne _ _ _ _ (by decide), tmp_put_same _ _ _ (by (repeat rw [Act.size_put]); omega)])) ?_ ?_
          · intro w9 hSw
            generalize hρ : Act.eval _ = ρ
            have e27 : ρ (.tmp 27) = .pointer (some ⟨s, o + k * 2 + 1, none⟩) := by rw [← hρ, Act.eval_put_same _ _ _ (by (repeat rw [Act.size_put]); omega)]
            obtain ⟨ec, ef⟩ := ev_cf hρ
            clear hρ
            simp only [List.getElem_toArray, List.getElem_cons_zero, List.getElem_cons_succ]
            obtain ⟨F9, hA9⟩ := hSw
            have k0 := (hPA.below hA9.below).snd k _ hx
            go_simp
          refine wpAnyH_ready (rs := [14]) (by kernel_rfl) (by simp) ?_
          refine anyS_enter (i := 14) (d := some 29) (f := 121) (args := #[.agg #[.int .i64 ((N : Nat) : Int), .slice x2 y2 z2], .int .i64 xb]) (w' := w5) rfl rfl (wanted_guard (j := 7) (d := 22) (want := true) rfl rfl (by rw [tmp_put_ne _ _ _ _ (by decide), tmp_put_ne _ _ _ _ (by decide), tmp_put_ne _ _ _ _ (by decide), tmp_put_ne _ _ _ _ (by decide), tmp_put_ne _ _ _ _ (by decide), tmp_put_ne _ _ _ _ (by decide), tmp_put_same _ _ _ (by (repeat rw [Act.size_put]); omega)])) ?_ ?_ AllReadyH.nil
          · skip
            generalize hρ : Act.eval _ = ρ
            have e23 : ρ (.tmp 23) = .agg #[.int .i64 ((N : Nat) : Int), .slice x2 y2 z2] := by rw [← hρ, Act.eval_put_ne _ _ _ _ (by decide), Act.eval_put_ne _ _ _ _ (by decide), Act.eval_put_ne _ _ _ _ (by decide), Act.eval_put_ne _ _ _ _ (by decide), Act.eval_put_ne _ _ _ _ (by decide), Act.eval_put_same _ _ _ (by (repeat rw [Act.size_put]); omega)]
            have e28 : ρ (.tmp 28) = .int .i64 xb := by rw [← hρ, Act.eval_put_same _ _ _ (by (repeat rw [Act.size_put]); omega)]
            obtain ⟨ec, ef⟩ := ev_cf hρ
            clear hρ
            simp only [List.getElem_toArray, List.getElem_cons_zero, List.getElem_cons_succ]
            go_simp
          refine (refinT true N x2 y2 z2 xb _ hb).mono ?_
          rintro e w6 ⟨rfl, hB6⟩
          have hA6 := hA5.step hB6
          refine ⟨_, rfl, ⟨_, hA6⟩, ?_⟩
          clear hS
          have hS : ∃ F', MkAt w w6 1 [(0, #[.int .i64 0, .slice none 0 0])] B N (.slice x2 y2 z2) rbw F' := ⟨_, hA6⟩
          refine anyS_take (i := 15) (d := some 30) (v := .bool true) hS rfl rfl (by kernel_rfl) (by kernel_rfl) (by kernel_rfl) (fun _ _ _ h => h) (by rfl) ?_ ?_
          · intro w9 hSw
            generalize hρ : Act.eval _ = ρ
            have e22 : ρ (.tmp 22) = .bool true := by rw [← hρ, Act.eval_put_ne _ _ _ _ (by decide), Act.eval_put_ne _ _ _ _ (by decide), Act.eval_put_ne _ _ _ _ (by decide), Act.eval_put_ne _ _ _ _ (by decide), Act.eval_put_ne _ _ _ _ (by decide), Act.eval_put_ne _ _ _ _ (by decide), Act.eval_put_ne _ _ _ _ (by decide), Act.eval_put_same _ _ _ (by (repeat rw [Act.size_put]); omega)]
            have e29 : ρ (.tmp 29) = .bool true := by rw [← hρ, Act.eval_put_same _ _ _ (by (repeat rw [Act.size_put]); omega)]
            obtain ⟨ec, ef⟩ := ev_cf hρ
            clear hρ
            simp only [List.getElem_toArray, List.getElem_cons_zero, List.getElem_cons_succ]
            clear hSw
            go_simp
          refine wpAnyH_done (by kernel_rfl) ?_ _
          subst hA0
          simp only [Act.put, List.setIfInBounds_toArray, List.set_cons_zero, List.set_cons_succ]
          clear hS
          have hA7 := hA6
          clear hA5 hA6 hB5 hB6
          have hpa := (hPA.below hA7.below).fst k _ hx
          have hpb := (hPA.below hA7.below).snd k _ hx
          dsimp only at hpa hpb
          obtain ⟨pa, rfl⟩ : ∃ pa : Nat, xa = ((pa : Nat) : Int) := ⟨xa.toNat, by unfold inR at ha; simp at ha; omega⟩
          obtain ⟨pb, rfl⟩ : ∃ pb : Nat, xb = ((pb : Nat) : Int) := ⟨xb.toNat, by unfold inR at hb; simp at hb; omega⟩
          have hpaN : pa < N := by unfold inR at ha; simp at ha; omega
          have hpbN : pb < N := by unfold inR at hb; simp at hb; omega
          have d1 := hA7.box.cell (j := 1) rfl
          obtain ⟨g2, cap2, e2, _, _, n2, s0, s1, fz, q3⟩ := hA7.ref.at_ (p := pa) (q := pb) hpaN hpbN
          cases e2
          have hA8 := hA7.drew.put (p := pa) (q := pb) hpaN hpbN true
          rw [show upd (ofFn N (l.take k)) pa pb true = ofFn N (l.take (k + 1)) from HE2.out] at hA8
          clear hx ha hb
          go_wp2_with fail
          go_region
          all_goals
            go_wp2_with fail
            refine ⟨⟨k + 1, by omega, by go_num, hA8⟩, by simp [intOf]; omega⟩
    · have e : l.length = k := by omega
      rw [← e, List.take_length] at hA
      subst e
      clear hPA
      have b0 := hA.box.cell (j := 0) rfl
      have b1 := hA.box.cell (j := 1) rfl
      have hr := hA.fst
      rw [Nat.add_zero] at hr
      have d0 := hr.cell (j := 0) rfl
      have d1 := hr.cell (j := 1) rfl
      have f0 := hr.frozen 0
      have f1 := hr.frozen 1
      go_wp2_with fail
      have hres := (hr.set 0 (.int .i64 ((N : Nat) : Int))).set 1 (.slice x2 y2 z2)
      simp only [List.setIfInBounds_toArray, List.set_cons_zero, List.set_cons_succ] at hres
      (try simp only [Exit.inBlock, Exit.then])
      refine bodyPost_ret (ret_ref rfl rfl hres) rfl ?_
      obtain ⟨hA1, hB1⟩ := hA.answer (r := 0) (by omega)
      rw [Nat.add_zero] at hA1 hB1
      first | exact ⟨_, rbw, rfl, hA1, hB1⟩ | exact ⟨_, rfl, ⟨rbw, hA1⟩, hB1⟩
theorem refOf_calls (n : Int) (v : Value) (l : List (Int × Int)) (w : World) (h : PArg w v l) :
    Calls Tryz.prog 101 #[.int .i64 n, v] w fun e w' => ∃ M rb', e = .returned (.agg #[.int .i64 ((clampN n : Nat) : Int), M]) ∧ RefM w.heap.size w' M (clampN n) (clampN n) rb' (ofFn (clampN n) l) ∧ Below w.heap.size w w' := by
  rcases h with ⟨x, cap, rfl, rfl⟩ | ⟨s, o, cap, rfl, h2, h3⟩
  · exact refOf_none n x cap w _ rfl
  · exact refOf_some n s o cap l w h2 h3 _ rfl
end Go.Proofs.YthiijcappjaagaaGreatDoor
namespace Go.Proofs.YthiijcappjaagaaGreatDoor
open Go.RowKit Go.Shelf Sx Relation
structure Twin (n : Nat) (F : Nat → Nat → Bool) (L : List Nat) : Prop where
  wf : WF n L
  same : Same n F L
section
variable {n m N : Nat} {F G : Nat → Nat → Bool} {A B : List Nat}
theorem Twin.ext (h : Twin n F A) (p q : Nat) : extF n F p q = true ↔ hs A p q := by
  unfold extF
  rw [Bool.and_eq_true, Bool.and_eq_true, decide_eq_true_eq, decide_eq_true_eq]
  constructor
  · rintro ⟨h1, h2, h3⟩
    exact (h.same p q h1 h2).1 h3
  · intro h1
    have h2 := hs_left h1
    rw [h.wf.len] at h2
    exact ⟨h2, h.wf.low _ _ h1, (h.same p q h2 (h.wf.low _ _ h1)).2 h1⟩
theorem Twin.low (h : Twin n F A) {p q : Nat} (h1 : hs A p q) : p < n ∧ q < n := by
  have h2 := hs_left h1
  rw [h.wf.len] at h2
  exact ⟨h2, h.wf.low _ _ h1⟩
theorem cmpF_iff (X Y : Nat → Nat → Bool) (k p q : Nat) : cmpF X Y k p q = true ↔ ∃ r, r < k ∧ X p r = true ∧ Y r q = true := by
  induction k with
  | zero => simp [cmpF]
  | succ k ih =>
    rw [cmpF_succ, Bool.or_eq_true, ih, Bool.and_eq_true]
    constructor
    · rintro (⟨r, h1, h2⟩ | h)
      · exact ⟨r, by omega, h2⟩
      · exact ⟨k, by omega, h⟩
    · rintro ⟨r, h1, h2⟩
      by_cases e : r = k
      · subst e; exact Or.inr h2
      · exact Or.inl ⟨r, by omega, h2⟩
end
end Go.Proofs.YthiijcappjaagaaGreatDoor
namespace Go.Proofs.YthiijcappjaagaaGreatDoor
open Go.RowKit Go.Shelf Sx Relation
section
variable {n m N : Nat} {F G : Nat → Nat → Bool} {A B : List Nat}
theorem bits_row (hn : n ≤ 256) (ha : Twin n F A) {p : Nat} (hp : p < n) : bitsOf (gr A p) = (List.range n).filter (F p) := by
  unfold bitsOf bitsN
  obtain ⟨d, hd⟩ : ∃ d, 256 = n + d := ⟨256 - n, by omega⟩
  have hz : (List.map (fun x => n + x) (List.range d)).filter (gr A p).testBit = [] := by
    rw [List.filter_eq_nil_iff]
    intro q hq h
    obtain ⟨r, _, rfl⟩ := List.mem_map.1 hq
    have := (ha.low (show hs A p (n + r) from h)).2
    omega
  rw [hd, List.range_add, List.filter_append, hz, List.append_nil]
  apply List.filter_congr
  intro q hq
  have hq : q < n := by simpa using hq
  rw [Bool.eq_iff_iff]
  exact (ha.same p q hp hq).symm
theorem twin_pairs (hn : n ≤ 256) (ha : Twin n F A) : pairsL A = prsF n F n 0 := by
  unfold pairsL pairsK prsF
  rw [ha.wf.len, show prsRow F n 0 = [] from rfl, List.append_nil]
  rw [List.flatMap_def, List.flatMap_def]
  congr 1
  apply List.map_congr_left
  intro p hp
  have hp : p < n := by simpa using hp
  unfold prsRow
  rw [bits_row hn ha hp]
end
end Go.Proofs.YthiijcappjaagaaGreatDoor
