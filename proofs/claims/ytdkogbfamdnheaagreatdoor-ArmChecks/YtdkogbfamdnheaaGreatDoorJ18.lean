import Derived.Test.YtdkogbfamdnheaaGreatDoorJ17
namespace Go.Proofs.YtdkogbfamdnheaaGreatDoor
open Go.RowKit Go.Shelf Sx
set_option maxRecDepth 100000
set_option maxHeartbeats 16000000
set_option linter.unusedSimpArgs false
set_option linter.unusedVariables false
def Qm3 (n : Nat) (F : Nat → Nat → Bool) (a b : Int) (v : Bool) : Nat → Nat → Bool := if inR n a && inR n b then upd F a.toNat b.toNat v else F
theorem Qx (G F0 : Nat → Nat → Bool) {m a b : Nat} : upd (fun x y => Qaj G F0 m a b y x) b a (G a b) = fun x y => Qaj G F0 m a (b + 1) y x := by
 funext x y
 have := congrFun (congrFun (Qd2 G F0 (m := m) (a := a) (b := b)) y) x
 rw [← this]
 unfold upd
 by_cases h : x = b ∧ y = a
 ·rw [if_pos h, if_pos ⟨h.2, h.1⟩]
 ·rw [if_neg h, if_neg (fun k => h ⟨k.2, k.1⟩)]
theorem Qd6 {G F0 : Nat → Nat → Bool} {m k x y : Nat} (hx : x < k) (hy : y < m) : Qaj G F0 m k 0 x y = G x y := by
 unfold Qaj
 rw [if_pos (Or.inl ⟨hx, hy⟩)]
def Qad (n : Nat) (F : Nat → Nat → Bool) : Nat → Nat → Bool := fun p q => decide (p < n) && (decide (q < n) && F p q)
theorem Qgh (n : Nat) (F : Nat → Nat → Bool) (p q : Nat) : Qaj F (fun _ _ => false) n n 0 p q = Qad n F p q := by
 unfold Qaj Qad
 by_cases h1 : p < n
 ·by_cases h2 : q < n
  ·rw [if_pos oW]; simp [h1, h2]
  ·rw [if_neg oW]; simp [h2]
 ·rw [if_neg oW]; simp [h1]
theorem Qxa (n m : Nat) (F G : Nat → Nat → Bool) (p q : Nat) : Qaj (fun p q => Qad n F p q || G p q) (Qad n F) m m 0 p q = (Qad n F p q || Qad m G p q) := by
 unfold Qaj
 by_cases h1 : p < m
 ·by_cases h2 : q < m
  ·rw [if_pos oW]
   have : Qad m G p q = G p q := by unfold Qad; simp [h1, h2]
   rw [this]
  ·rw [if_neg oW]
   have : Qad m G p q = false := by unfold Qad; simp [h2]
   rw [this, Bool.or_false]
 ·rw [if_neg oW]
  have : Qad m G p q = false := by unfold Qad; simp [h1]
  rw [this, Bool.or_false]
theorem Qm4 (n : Nat) (F : Nat → Nat → Bool) (p q : Nat) : Qia n F ((p : Nat) : Int) ((q : Nat) : Int) = Qad n F p q := by
 unfold Qia Qad inR
 rw [Int.toNat_natCast, Int.toNat_natCast]
 congr 1
 ·simp
 ·congr 1
  simp
theorem Qhn {G F0 : Nat → Nat → Bool} {m a b : Nat} {v : Bool} (h : G a b = v) : upd (Qaj G F0 m a b) a b v = Qaj G F0 m a (b + 1) := by
 rw [← h]
 exact Qd2 G F0
theorem Qpb (lo lo2 n m N : Nat) (hn : n ≤ 256) (hm : m ≤ 256) (HN : Hid (N = max n m)) (x : Option Addr) (y z : Nat) (rb : Nat → Nat) (F : Nat → Nat → Bool) (x1 : Option Addr) (y1 z1 : Nat) (rb1 : Nat → Nat) (G : Nat → Nat → Bool) (w : World) (h : RefM lo w (.slice x y z) n n rb F) (h1 : RefM lo2 w (.slice x1 y1 z1) m m rb1 G) :
  Calls Tryz.prog 53 #[.agg #[.int .i64 ((n : Nat) : Int), .slice x y z], .agg #[.int .i64 ((m : Nat) : Int), .slice x1 y1 z1]] w fun e w' => ∃ M rb', e = .returned (.agg #[.int .i64 ((N : Nat) : Int), M]) ∧ RefM w.heap.size w' M N N rb' (fun p q => Qad n F p q && !Qad m G p q) ∧ Below w.heap.size w w' := by
 have hN : N ≤ 256 := by have := HN.out; omega
 have hnN : n ≤ N := by have := HN.out; omega
 have hmN : m ≤ N := by have := HN.out; omega
 go_enter Tryz.func53, Tryz.ntmps53
 go_wp2_with fail
 refine (Qe8 lo n hn x y z rb F m N hm HN _ (((h.alloc _).alloc _).alloc _)).mono ?_
 rintro e w1 ⟨M, rbw, rfl, hRM, hB1⟩
 obtain ⟨x2, y2, z2, rfl⟩ := hRM.slice
 have hA : MkAt w (w1.alloc (.cells #[.int .i64 ((N : Nat) : Int), .slice x2 y2 z2] 51)) 3 [(0, #[.int .i64 ((n : Nat) : Int), .slice x y z]), (1, #[.int .i64 ((m : Nat) : Int), .slice x1 y1 z1]), (2, #[.int .i64 0, .slice none 0 0])] w1.heap.size N (.slice x2 y2 z2) rbw (Qaj (fun p q => Qad n F p q && !Qad m G p q) (Qad n F) N 0 0) := by
  refine MkAt.begin ((((Below.refl _ w).alloc nW _).alloc sW _).alloc (by simp; omega) _) sW ?_ (hRM.congr fun p q hp hq => ?_) hB1
  ·intro x hx
   simp only [List.mem_cons, List.not_mem_nil, or_false] at hx
   rcases hx with rfl | rfl | rfl
   ·exact ⟨oW, ((Blk.new w _ _).alloc _).alloc _⟩
   ·exact ⟨oW, (Blk.new2 w _ _ _).alloc _⟩
   ·exact ⟨oW, Blk.new3 w _ _ _ _⟩
  ·rw [Qct, Qgh]
 clear hRM hB1
 go_wp2_with fail
 generalize w1.heap.size = B at *
 go_loopw [6] (fun i wr => ∃ a, a ≤ N ∧ i = .int .i64 ((a : Nat) : Int) ∧ MkAt w wr 3 [(0, #[.int .i64 ((n : Nat) : Int), .slice x y z]), (1, #[.int .i64 ((m : Nat) : Int), .slice x1 y1 z1]), (2, #[.int .i64 0, .slice none 0 0])] B N (.slice x2 y2 z2) rbw (Qaj (fun p q => Qad n F p q && !Qad m G p q) (Qad n F) N a 0)) (fun i _ => N - (intOf i).toNat)
 case atStart => exact ⟨0, oW, rfl, hA⟩
 case round =>
  clear hA
  obtain ⟨a, ha, rfl, hA⟩ := hrel
  (try dsimp only at hA)
  have c0 := hA.box.cell (j := 0) rfl
  by_cases hlt : a < N
  ·go_wp2_with fail
   clear c0
   go_loopw [7] (fun i wr => ∃ b, b ≤ N ∧ i = .int .i64 ((b : Nat) : Int) ∧ MkAt w wr 3 [(0, #[.int .i64 ((n : Nat) : Int), .slice x y z]), (1, #[.int .i64 ((m : Nat) : Int), .slice x1 y1 z1]), (2, #[.int .i64 0, .slice none 0 0])] B N (.slice x2 y2 z2) rbw (Qaj (fun p q => Qad n F p q && !Qad m G p q) (Qad n F) N a b)) (fun i _ => N - (intOf i).toNat)
   case atStart => exact ⟨0, oW, rfl, hA⟩
   case round =>
    clear hA
    obtain ⟨b, hb, rfl, hA⟩ := hrel
    (try dsimp only at hA)
    have c0 := hA.box.cell (j := 0) rfl
    by_cases hlt2 : b < N
    ·skip
     have d1 := hA.box.cell (j := 1) rfl
     have c2 := hA.snd.cell (j := 1) rfl
     obtain ⟨g2, cap2, e2, q2, _, n2, s0, s1, fz, q3⟩ := hA.ref.at_ (p := a) (q := b) oW oW
     cases e2
     rw [Qi] at s1
     have haN : a < N := by omega
     have hbN : b < N := by omega
     cases hv : Qad n F a b
     ·rw [hv] at s1
      have hA2 := (hA.drew.put (p := a) (q := b) oW oW false).congr (G := Qaj (fun p q => Qad n F p q && !Qad m G p q) (Qad n F) N a (b + 1)) (fun p q _ _ => congrFun (congrFun (Qhn (G := fun p q => Qad n F p q && !Qad m G p q) (by rw [hv, Bool.false_and])) p) q)
      go_wp2_with fail
      go_region
      all_goals
       go_wp2_with fail
       refine ⟨⟨b + 1, oW, by go_num, hA2⟩, by simp [intOf]; omega⟩
     ·rw [hv] at s1
      go_wp2_with fail
      have k0 := hA.snd.cell (j := 0) rfl
      have k1 := hA.snd.cell (j := 1) rfl
      have A0 : (0 : Int) ≤ (a : Int) := by omega
      have A1 : (a : Int) < (N : Int) := by omega
      have B0 : (0 : Int) ≤ (b : Int) := by omega
      have B1 : (b : Int) < (N : Int) := by omega
      have hAd := hA.drew
      have s1' : wr.drew.cell? ⟨rbw a, b, none⟩ = some (.bool true) := s1
      refine wp_region_held_drew (S := fun W => W.cell? ⟨B, 1, none⟩ = some (.slice (some ⟨g2, 0, none⟩) N z2) ∧ W.cell? ⟨g2, a, none⟩ = some (hdr N (rbw a)) ∧ W.cell? ⟨w.heap.size + 1, 0, none⟩ = some (.int .i64 ((m : Nat) : Int)) ∧ W.cell? ⟨w.heap.size + 1, 1, none⟩ = some (.slice x1 y1 z1)) kW ⟨d1, s0, k0, k1⟩ (fun hHeld => ?_)
      clear hA s0 s1 d1 k0 k1 c0 c2 fz
      generalize wr.drew = W1 at *
      refine tzW 0 rfl ?_
      refine tzW 1 rfl ?_
      refine tzW 2 rfl ?_
      refine tzW 3 rfl ?_
      refine tzW 4 rfl ?_
      refine tzW 5 rfl ?_
      refine tzW 6 rfl ?_
      refine tzW 7 rfl ?_
      refine tzW 8 rfl ?_
      refine tzW 9 rfl ?_
      refine tzW 10 rfl ?_
      refine tzW 11 rfl ?_
      refine tzW 12 rfl ?_
      refine wpAnyH_ready (rs := [13]) kW sW ?_
      refine rdy rfl (fun K hK => ?_) AllReadyH.nil
      simp only [zw]
      go_simp
      refine hK.out _ _ hHeld (fun hHeld => ?_)
      clear hK K s1'
      try simp only [zz]
      refine tzW 14 rfl ?_
      refine tzW 15 rfl ?_
      refine tzW 16 rfl ?_
      refine tzW 17 rfl ?_
      refine wpAnyH_ready (rs := [18]) kW sW ?_
      refine rdy rfl (fun K hK => ?_) AllReadyH.nil
      simp only [zw]
      go_simp
      refine (Qlo lo2 m x1 y1 z1 rb1 G _ _ _ (h1.below hAd.below)).mono ?_
      rintro e w5 ⟨rfl, hB5⟩
      have hA5 := hAd.step hB5
      rw [Qm4]
      have hA6 := hA5.put (p := a) (q := b) haN hbN (!Qad m G a b)
      obtain ⟨_, _, e3, _, _, _, s3, s2, fz, _⟩ := hA5.ref.at_ (p := a) (q := b) haN hbN
      cases e3
      refine hK.out _ _ ⟨hA5.box.cell rfl, s3, hA5.snd.cell rfl, hA5.snd.cell rfl⟩ (fun hHeld => ?_)
      clear hK K hAd hB5 s3
      try simp only [zz]
      refine tzW 19 rfl ?_
      refine tzW 20 rfl ?_
      refine tzW 21 rfl ?_
      refine wpAnyH_ready (rs := [22]) kW sW ?_
      refine rdy rfl (fun K hK => ?_) AllReadyH.nil
      simp only [zw]
      go_simp
      obtain ⟨_, _, e3, _, _, _, s3, _, _, _⟩ := hA6.ref.at_ (p := a) (q := b) haN hbN
      cases e3
      refine hK.out _ _ ⟨hA6.box.cell rfl, s3, hA6.snd.cell rfl, hA6.snd.cell rfl⟩ (fun hHeld => ?_)
      clear hK K hHeld s3
      refine wpAnyH_done kW ?_ _
      try simp only [zz]
      have hA7 := hA6.congr (G := Qaj (fun p q => Qad n F p q && !Qad m G p q) (Qad n F) N a (b + 1)) (fun p q _ _ => congrFun (congrFun (Qhn (G := fun p q => Qad n F p q && !Qad m G p q) (by rw [hv, Bool.true_and])) p) q)
      clear hA6 s2 fz
      go_wp2_with fail
      refine ⟨⟨b + 1, oW, by go_num, hA7⟩, by simp [intOf]; omega⟩
    ·have e : N = b := by omega
     subst e
     rw [Qdb] at hA
     go_wp2_with fail
     refine ⟨⟨a + 1, oW, by go_num, hA⟩, by simp [intOf]; omega⟩
  ·have e : N = a := by omega
   subst e
   have hA := hA.congr (G := fun p q => Qad n F p q && !Qad m G p q) (fun p q hp hq => by exact Qd6 hp hq)
   have b0 := hA.box.cell (j := 0) rfl
   have b1 := hA.box.cell (j := 1) rfl
   have hr := hA.trd
   have d0 := hr.cell (j := 0) rfl
   have d1 := hr.cell (j := 1) rfl
   have f0 := hr.frozen 0
   have f1 := hr.frozen 1
   go_wp2_with fail
   have hres := (hr.set 0 (.int .i64 (N : Int))).set 1 (.slice x2 y2 z2)
   simp only [List.setIfInBounds_toArray, List.set_cons_zero, List.set_cons_succ] at hres
   (try simp only [Exit.inBlock, Exit.then])
   refine bodyPost_ret (Qbr rfl rfl hres) rfl ?_
   obtain ⟨hA1, hB1⟩ := hA.answer (r := 2) oW
   first | exact ⟨_, rbw, rfl, hA1, hB1⟩ | exact ⟨_, rfl, ⟨rbw, hA1⟩, hB1⟩
theorem Qzk {n p q : Nat} {F : Nat → Nat → Bool} (hp : p < n) (hq : q < n) : Qad n F p q = F p q := by
 unfold Qad
 simp [hp, hq]
def Qan (F : Nat → Nat → Bool) : Nat → Nat → Nat → Bool
 | 0 => F
 | k + 1 => fun p q => Qan F k p q || (Qan F k p k && Qan F k k q)
theorem Qfe (F : Nat → Nat → Bool) (k p q : Nat) : Qan F (k + 1) p q = (Qan F k p q || (Qan F k p k && Qan F k k q)) := rfl
theorem Qxb (F : Nat → Nat → Bool) (k p : Nat) : Qan F (k + 1) p k = Qan F k p k := by
 rw [Qfe]
 cases Qan F k p k <;> simp
theorem Qxc (F : Nat → Nat → Bool) (k q : Nat) : Qan F (k + 1) k q = Qan F k k q := by
 rw [Qfe]
 cases Qan F k k q <;> simp
theorem Qso (F : Nat → Nat → Bool) (N k p q x : Nat) : Qaj (Qan F (k + 1)) (Qan F k) N p q x k = Qan F k x k := by
 unfold Qaj
 split
 ·exact Qxb F k x
 ·rfl
theorem QBu (F : Nat → Nat → Bool) (N k p q y : Nat) : Qaj (Qan F (k + 1)) (Qan F k) N p q k y = Qan F k k y := by
 unfold Qaj
 split
 ·exact Qxc F k y
 ·rfl
theorem Qxd (F : Nat → Nat → Bool) (N k p : Nat) (h : Qan F k p k = false) (x y : Nat) : Qaj (Qan F (k + 1)) (Qan F k) N p 0 x y = Qaj (Qan F (k + 1)) (Qan F k) N (p + 1) 0 x y := by
 unfold Qaj
 by_cases h1 : x < p ∧ y < N
 ·rw [if_pos oW, if_pos oW]
 ·rw [if_neg oW]
  by_cases h2 : x = p ∧ y < N
  ·rw [if_pos oW, Qfe, h2.1, h]
   simp
  ·rw [if_neg oW]
theorem Qq7 (lo N : Nat) (hN : N ≤ 256) (x : Option Addr) (y z : Nat) (rb : Nat → Nat) (F : Nat → Nat → Bool) (w : World) (h : RefM lo w (.slice x y z) N N rb F) :
  Calls Tryz.prog 109 #[.agg #[.int .i64 ((N : Nat) : Int), .slice x y z]] w fun e w' => ∃ M rb', e = .returned (.agg #[.int .i64 ((N : Nat) : Int), M]) ∧ RefM w.heap.size w' M N N rb' (Qan F N) ∧ Below w.heap.size w w' := by
 have HN : Hid (N = max N 0) := by show _ = _; omega
 go_enter Tryz.func109, Tryz.ntmps109
 go_wp2_with fail
 refine (Qe8 lo N hN x y z rb F 0 N oW HN _ ((h.alloc _).alloc _)).mono ?_
 rintro e w1 ⟨M, rbw, rfl, hRM, hB1⟩
 obtain ⟨x2, y2, z2, rfl⟩ := hRM.slice
 have hA : MkAt w (w1.alloc (.cells #[.int .i64 (N : Int), .slice x2 y2 z2] 51)) 2 [(0, #[.int .i64 (N : Int), .slice x y z]), (1, #[.int .i64 0, .slice none 0 0])] w1.heap.size N (.slice x2 y2 z2) rbw (Qan F 0) := by
  refine MkAt.begin (((Below.refl _ w).alloc nW _).alloc sW _) sW ?_ (hRM.congr fun p q hp hq => ?_) hB1
  ·intro x hx
   simp only [List.mem_cons, List.not_mem_nil, or_false] at hx
   rcases hx with rfl | rfl
   ·exact ⟨oW, (Blk.new w _ _).alloc _⟩
   ·exact ⟨oW, Blk.new2 w _ _ _⟩
  ·rw [Qgh, Qzk hp hq]
   rfl
 clear hRM hB1
 go_wp2_with fail
 generalize w1.heap.size = B at *
 go_loopw [4] (fun i wr => ∃ k, k ≤ N ∧ i = .int .i64 ((k : Nat) : Int) ∧ MkAt w wr 2 [(0, #[.int .i64 ((N : Nat) : Int), .slice x y z]), (1, #[.int .i64 0, .slice none 0 0])] B N (.slice x2 y2 z2) rbw (Qan F k)) (fun i _ => N - (intOf i).toNat)
 case atStart => exact ⟨0, oW, rfl, hA⟩
 case round =>
  clear hA
  obtain ⟨k, hk, rfl, hA⟩ := hrel
  have c0 := hA.box.cell (j := 0) rfl
  by_cases hlt : k < N
  ·rw [← Qct (Qan F (k + 1)) (Qan F k) N] at hA
   go_wp2_with fail
   clear c0
   go_loopw [5] (fun i wr => ∃ p, p ≤ N ∧ i = .int .i64 ((p : Nat) : Int) ∧ MkAt w wr 2 [(0, #[.int .i64 ((N : Nat) : Int), .slice x y z]), (1, #[.int .i64 0, .slice none 0 0])] B N (.slice x2 y2 z2) rbw (Qaj (Qan F (k + 1)) (Qan F k) N p 0)) (fun i _ => N - (intOf i).toNat)
   case atStart => exact ⟨0, oW, rfl, hA⟩
   case round =>
    clear hA
    obtain ⟨p, hp, rfl, hA⟩ := hrel
    have c0 := hA.box.cell (j := 0) rfl
    by_cases hlt2 : p < N
    ·cases hv : Qan F k p k
     ·have hA2 := hA.congr (fun x y _ _ => Qxd F N k p hv x y)
      have Hv : Hid (Qan F k p k = false) := hv
      clear hA hv
      go_wp2_with fail
      clear c0
      go_loopw [6] (fun i wr => i = .int .i64 0 ∧ MkAt w wr 2 [(0, #[.int .i64 ((N : Nat) : Int), .slice x y z]), (1, #[.int .i64 0, .slice none 0 0])] B N (.slice x2 y2 z2) rbw (Qaj (Qan F (k + 1)) (Qan F k) N (p + 1) 0)) (fun _ _ => 0)
      case atStart => exact ⟨rfl, hA2⟩
      case round =>
       clear hA2
       obtain ⟨rfl, hA⟩ := hrel
       have d1 := hA.box.cell (j := 1) rfl
       obtain ⟨g2, cap2, e2, _, _, _, s0, s1, _, _⟩ := hA.ref.at_ (p := p) (q := k) hlt2 hlt
       cases e2
       rw [Qso, Hv.out] at s1
       go_wp2_with fail
       refine ⟨⟨p + 1, oW, by go_num, hA⟩, by simp [intOf]; omega⟩
     ·have Hv : Hid (Qan F k p k = true) := hv
      clear hv
      go_wp2_with fail
      clear c0
      go_loopw [6] (fun i wr => ∃ q, q ≤ N ∧ i = .int .i64 ((q : Nat) : Int) ∧ MkAt w wr 2 [(0, #[.int .i64 ((N : Nat) : Int), .slice x y z]), (1, #[.int .i64 0, .slice none 0 0])] B N (.slice x2 y2 z2) rbw (Qaj (Qan F (k + 1)) (Qan F k) N p q)) (fun i _ => N - (intOf i).toNat)
      case atStart => exact ⟨0, oW, rfl, hA⟩
      case round =>
       clear hA
       obtain ⟨q, hq, rfl, hA⟩ := hrel
       have c0 := hA.box.cell (j := 0) rfl
       have d1 := hA.box.cell (j := 1) rfl
       obtain ⟨g2, cap2, e2, _, _, _, s0, s1, _, _⟩ := hA.ref.at_ (p := p) (q := k) hlt2 hlt
       rw [Qso, Hv.out] at s1
       by_cases hlt3 : q < N
       ·obtain ⟨g3, cap3, e3, _, _, _, t0, t1, _, _⟩ := hA.ref.at_ (p := k) (q := q) hlt hlt3
        obtain ⟨g4, cap4, e4, _, _, n4, u0, u1, fz, _⟩ := hA.ref.at_ (p := p) (q := q) hlt2 hlt3
        cases e2
        cases e3
        cases e4
        rw [QBu] at t1
        rw [Qi] at u1
        have hval : Qan F (k + 1) p q = (Qan F k p q || Qan F k k q) := by rw [Qfe, Hv.out, Bool.true_and]
        have hA2 := hA.drew.put (p := p) (q := q) hlt2 hlt3 (Qan F k p q || Qan F k k q)
        rw [← hval, Qd2] at hA2
        cases hu : Qan F k p q
        ·rw [hval, hu, Bool.false_or] at hA2
         rw [hu] at u1
         clear hval hu
         go_wp2_with fail
         go_region
         all_goals
          go_wp2_with fail
          refine ⟨⟨q + 1, oW, by go_num, hA2⟩, by simp [intOf]; omega⟩
        ·rw [hval, hu, Bool.true_or] at hA2
         rw [hu] at u1
         clear hval hu
         go_wp2_with fail
         go_region
         all_goals
          go_wp2_with fail
          refine ⟨⟨q + 1, oW, by go_num, hA2⟩, by simp [intOf]; omega⟩
       ·have e : N = q := by omega
        subst e
        cases e2
        rw [Qdb] at hA
        go_wp2_with fail
        refine ⟨⟨p + 1, oW, by go_num, hA⟩, by simp [intOf]; omega⟩
    ·have e : N = p := by omega
     subst e
     have hA2 := hA.congr (G := Qan F (k + 1)) (fun x y hx hy => Qd6 hx hy)
     go_wp2_with fail
     refine ⟨⟨k + 1, oW, by go_num, hA2⟩, by simp [intOf]; omega⟩
  ·have e : N = k := by omega
   subst e
   have b1 := hA.box.cell (j := 1) rfl
   have hr := hA.snd
   have d0 := hr.cell (j := 0) rfl
   have d1 := hr.cell (j := 1) rfl
   have f0 := hr.frozen 0
   have f1 := hr.frozen 1
   go_wp2_with fail
   have hres := (hr.set 0 (.int .i64 (N : Int))).set 1 (.slice x2 y2 z2)
   simp only [List.setIfInBounds_toArray, List.set_cons_zero, List.set_cons_succ] at hres
   (try simp only [Exit.inBlock, Exit.then])
   refine bodyPost_ret (Qbr rfl rfl hres) rfl ?_
   obtain ⟨hA1, hB1⟩ := hA.answer (r := 1) oW
   first | exact ⟨_, rbw, rfl, hA1, hB1⟩ | exact ⟨_, rfl, ⟨rbw, hA1⟩, hB1⟩
def Qdt (X Y : Nat → Nat → Bool) : Nat → Nat → Nat → Bool
 | 0 => fun _ _ => false
 | q + 1 => fun p s => Qdt X Y q p s || (X p q && Y q s)
theorem Qk6 (X Y : Nat → Nat → Bool) (q p s : Nat) : Qdt X Y (q + 1) p s = (Qdt X Y q p s || (X p q && Y q s)) := rfl
def Qcz (X Y : Nat → Nat → Bool) (N p q : Nat) : Nat → Nat → Bool := fun x y => if x < p then Qdt X Y N x y else if x = p then Qdt X Y q x y else false
theorem Qxe (X Y : Nat → Nat → Bool) (N x y : Nat) : Qcz X Y N 0 0 x y = false := by
 unfold Qcz
 rw [if_neg oW]
 split <;> rfl
theorem Qul (X Y : Nat → Nat → Bool) (N p q : Nat) (h : X p q = false) (x y : Nat) : Qcz X Y N p q x y = Qcz X Y N p (q + 1) x y := by
 unfold Qcz
 by_cases h1 : x < p
 ·rw [if_pos h1, if_pos h1]
 ·rw [if_neg h1, if_neg h1]
  by_cases h2 : x = p
  ·subst h2
   rw [if_pos rfl, if_pos rfl, Qk6, h]
   simp
  ·rw [if_neg h2, if_neg h2]
theorem Qxf (X Y : Nat → Nat → Bool) (N p x y : Nat) : Qcz X Y N p N x y = Qcz X Y N (p + 1) 0 x y := by
 unfold Qcz
 by_cases h1 : x < p
 ·rw [if_pos h1, if_pos oW]
 ·rw [if_neg h1]
  by_cases h2 : x = p
  ·subst h2
   rw [if_pos rfl, if_pos oW]
  ·rw [if_neg h2, if_neg oW]
   split <;> rfl
theorem Qsp (X Y : Nat → Nat → Bool) (N p q x y : Nat) (hy : y < N) : Qaj (Qdt X Y (q + 1)) (Qcz X Y N p q) 0 p N x y = Qcz X Y N p (q + 1) x y := by
 unfold Qaj Qcz
 by_cases h1 : x < p
 ·rw [if_neg oW, if_pos h1, if_pos h1]
 ·by_cases h2 : x = p
  ·subst h2
   rw [if_pos oW, if_neg h1, if_pos rfl]
  ·rw [if_neg oW, if_neg h1, if_neg h1, if_neg h2, if_neg h2]
theorem Qxg (X Y : Nat → Nat → Bool) (N p q s : Nat) : Qcz X Y N p q p s = Qdt X Y q p s := by
 unfold Qcz
 rw [if_neg oW, if_pos rfl]
structure CompB (w W : World) (bx bY N : Nat) (M1 M2 : Value) (r1 r2 : Nat → Nat) (X Y : Nat → Nat → Bool) : Prop where
 below : Below w.heap.size w W
 res : Blk W (w.heap.size + 2) 51 #[.int .i64 0, .slice none 0 0]
 hx : Blk W bx 51 #[.int .i64 ((N : Nat) : Int), M1]
 hy : Blk W bY 51 #[.int .i64 ((N : Nat) : Int), M2]
 rx : RefM 0 W M1 N N r1 X
 ry : RefM 0 W M2 N N r2 Y
theorem CompB.step {w W W' : World} {bx bY N : Nat} {M1 M2 : Value} {r1 r2 : Nat → Nat} {X Y : Nat → Nat → Bool} (h : CompB w W bx bY N M1 M2 r1 r2 X Y) (hB : Below W.heap.size W W') : CompB w W' bx bY N M1 M2 r1 r2 X Y :=
 ⟨Qaa h.below h.below.size hB, h.res.of_below hB, h.hx.of_below hB, h.hy.of_below hB, h.rx.below hB, h.ry.below hB⟩
theorem Qkz (lo lo2 n m N : Nat) (hn : n ≤ 256) (hm : m ≤ 256) (HN : Hid (N = max n m)) (x : Option Addr) (y z : Nat) (rb : Nat → Nat) (F : Nat → Nat → Bool) (x1 : Option Addr) (y1 z1 : Nat) (rb1 : Nat → Nat) (G : Nat → Nat → Bool) (w : World) (h : RefM lo w (.slice x y z) n n rb F) (h1 : RefM lo2 w (.slice x1 y1 z1) m m rb1 G) :
  Calls Tryz.prog 64 #[.agg #[.int .i64 ((n : Nat) : Int), .slice x y z], .agg #[.int .i64 ((m : Nat) : Int), .slice x1 y1 z1]] w fun e w' => ∃ M rb', e = .returned (.agg #[.int .i64 ((N : Nat) : Int), M]) ∧ RefM w.heap.size w' M N N rb' (Qdt (Qad n F) (Qad m G) N) ∧ Below w.heap.size w w' := by
 have hN : N ≤ 256 := by have := HN.out; omega
 have HN2 : Hid (N = max m n) := by show _ = _; have := HN.out; omega
 have hW0 : Below w.heap.size w (((w.alloc (.cells #[.int .i64 (n : Int), .slice x y z] 51)).alloc (.cells #[.int .i64 (m : Int), .slice x1 y1 z1] 51)).alloc (.cells #[.int .i64 0, .slice none 0 0] 51)) := (((Below.refl _ w).alloc nW _).alloc sW _).alloc (by simp; omega) _
 go_enter Tryz.func64, Tryz.ntmps64
 go_wp2_with fail
 refine (Qe8 lo n hn x y z rb F m N hm HN _ (((h.alloc _).alloc _).alloc _)).mono ?_
 rintro e w1 ⟨M1, r1, rfl, hR1, hB1⟩
 obtain ⟨x2, y2, z2, rfl⟩ := hR1.slice
 have ba := (((((Blk.new w 51 #[.int .i64 (n : Int), .slice x y z]).alloc (.cells #[.int .i64 (m : Int), .slice x1 y1 z1] 51)).alloc (.cells #[.int .i64 0, .slice none 0 0] 51)).of_below hB1).alloc (.cells #[.int .i64 (N : Int), .slice x2 y2 z2] 51))
 have bb := ((((Blk.new2 w (.cells #[.int .i64 (n : Int), .slice x y z] 51) 51 #[.int .i64 (m : Int), .slice x1 y1 z1]).alloc (.cells #[.int .i64 0, .slice none 0 0] 51)).of_below hB1).alloc (.cells #[.int .i64 (N : Int), .slice x2 y2 z2] 51))
 have br := ((Blk.new3 w (.cells #[.int .i64 (n : Int), .slice x y z] 51) (.cells #[.int .i64 (m : Int), .slice x1 y1 z1] 51) 51 #[.int .i64 0, .slice none 0 0]).of_below hB1).alloc (.cells #[.int .i64 (N : Int), .slice x2 y2 z2] 51)
 have bx := Blk.new w1 51 #[.int .i64 (N : Int), .slice x2 y2 z2]
 have hW1 := Qaa hW0 hW0.size hB1
 have hW1a := hW1.alloc hW1.size (.cells #[.int .i64 (N : Int), .slice x2 y2 z2] 51)
 have rX := ((hR1.congr (G := Qad n F) (fun p q _ _ => Qgh n F p q)).mono (Nat.zero_le _)).alloc (.cells #[.int .i64 ((N : Nat) : Int), .slice x2 y2 z2] 51)
 have h1a := h1.below hW1a
 clear hR1 hB1 hW0 hW1
 have a0 := ba.cell (j := 0) rfl
 have b0 := bb.cell (j := 0) rfl
 have b1 := bb.cell (j := 1) rfl
 go_wp2_with fail
 generalize hw1a : w1.alloc (.cells #[.int .i64 ((N : Nat) : Int), .slice x2 y2 z2] 51) = W1 at *
 generalize w1.heap.size = BX at *
 refine (Qe8 lo2 m hm x1 y1 z1 rb1 G n N hn HN2 _ h1a).mono ?_
 rintro e w2 ⟨M2, r2, rfl, hR2, hB2⟩
 obtain ⟨x3, y3, z3, rfl⟩ := hR2.slice
 have hW2 := Qaa hW1a hW1a.size hB2
 have hC : CompB w (w2.alloc (.cells #[.int .i64 (N : Int), .slice x3 y3 z3] 51)) BX w2.heap.size N (.slice x2 y2 z2) (.slice x3 y3 z3) r1 r2 (Qad n F) (Qad m G) :=
  ⟨hW2.alloc hW2.size _, (br.of_below hB2).alloc _, (bx.of_below hB2).alloc _, Blk.new _ _ _, (rX.below hB2).alloc _, ((hR2.congr (G := Qad m G) (fun p q _ _ => Qgh m G p q)).mono (Nat.zero_le _)).alloc _⟩
 clear ba bb br bx hW1a rX h1a hR2 hB2 hW2 a0 b0 b1 h h1
 have a0 := hC.hx.cell (j := 0) rfl
 go_wp2_with fail
 generalize w2.alloc (.cells #[.int .i64 ((N : Nat) : Int), .slice x3 y3 z3] 51) = w3 at *
 generalize w2.heap.size = BY at *
 clear a0
 refine (Qd N hN _).mono ?_
 rintro e w4 ⟨M, rbw, rfl, hRM, hB4⟩
 obtain ⟨x4, y4, z4, rfl⟩ := hRM.slice
 have hA : MkAt w3 (w4.alloc (.cells #[.int .i64 (N : Int), .slice x4 y4 z4] 51)) 0 [] w4.heap.size N (.slice x4 y4 z4) rbw (Qcz (Qad n F) (Qad m G) N 0 0) :=
  MkAt.begin bW sW (fun x hx => by cases hx) (hRM.congr fun p q hp hq => (Qxe _ _ N p q).symm) hB4
 clear hRM hB4
 go_wp2_with fail
 generalize w4.heap.size = B at *
 go_loopw [8] (fun i wr => ∃ p, p ≤ N ∧ i = .int .i64 ((p : Nat) : Int) ∧ MkAt w3 wr 0 [] B N (.slice x4 y4 z4) rbw (Qcz (Qad n F) (Qad m G) N p 0)) (fun i _ => N - (intOf i).toNat)
 case atStart => exact ⟨0, oW, rfl, hA⟩
 case round =>
  clear hA
  obtain ⟨p, hp, rfl, hA⟩ := hrel
  have c0 := hA.box.cell (j := 0) rfl
  by_cases hlt : p < N
  ·go_wp2_with fail
   clear c0
   go_loopw [9] (fun i wr => ∃ q, q ≤ N ∧ i = .int .i64 ((q : Nat) : Int) ∧ MkAt w3 wr 0 [] B N (.slice x4 y4 z4) rbw (Qcz (Qad n F) (Qad m G) N p q)) (fun i _ => N - (intOf i).toNat)
   case atStart => exact ⟨0, oW, rfl, hA⟩
   case round =>
    clear hA
    obtain ⟨q, hq, rfl, hA⟩ := hrel
    have c0 := hA.box.cell (j := 0) rfl
    by_cases hlt2 : q < N
    ·cases hv : Qad n F p q
     ·have hA2 := hA.congr (fun x y _ _ => Qul (Qad n F) (Qad m G) N p q hv x y)
      have Hv : Hid (Qad n F p q = false) := hv
      clear hA hv
      go_wp2_with fail
      clear c0
      go_loopw [10] (fun i wr => i = .int .i64 0 ∧ MkAt w3 wr 0 [] B N (.slice x4 y4 z4) rbw (Qcz (Qad n F) (Qad m G) N p (q + 1))) (fun _ _ => 0)
      case atStart => exact ⟨rfl, hA2⟩
      case round =>
       clear hA2
       obtain ⟨rfl, hA⟩ := hrel
       have hC2 := hC.step hA.below
       have d1 := hC2.hx.cell (j := 1) rfl
       obtain ⟨g2, cap2, e2, _, _, _, s0, s1, _, _⟩ := hC2.rx.at_ (p := p) (q := q) hlt hlt2
       cases e2
       rw [Hv.out] at s1
       go_wp2_with fail
       refine ⟨⟨q + 1, oW, by go_num, hA⟩, by simp [intOf]; omega⟩
     ·have Hv : Hid (Qad n F p q = true) := hv
      have hA2 : MkAt w3 _ 0 [] B N (.slice x4 y4 z4) rbw (Qaj (Qdt (Qad n F) (Qad m G) (q + 1)) (Qcz (Qad n F) (Qad m G) N p q) 0 p 0) := hA.congr (fun x y _ _ => by unfold Qaj; rw [if_neg oW])
      clear hv hA
      go_wp2_with fail
      clear c0
      go_loopw [10] (fun i wr => ∃ s, s ≤ N ∧ i = .int .i64 ((s : Nat) : Int) ∧ MkAt w3 wr 0 [] B N (.slice x4 y4 z4) rbw (Qaj (Qdt (Qad n F) (Qad m G) (q + 1)) (Qcz (Qad n F) (Qad m G) N p q) 0 p s)) (fun i _ => N - (intOf i).toNat)
      case atStart => exact ⟨0, oW, rfl, hA2⟩
      case round =>
       clear hA2
       obtain ⟨s, hs, rfl, hA⟩ := hrel
       have hC2 := hC.step hA.below
       have c0 := hA.box.cell (j := 0) rfl
       have d1 := hC2.hx.cell (j := 1) rfl
       obtain ⟨g2, cap2, e2, _, _, _, s0, s1, _, _⟩ := hC2.rx.at_ (p := p) (q := q) hlt hlt2
       rw [Hv.out] at s1
       by_cases hlt3 : s < N
       ·have k1 := hC2.hy.cell (j := 1) rfl
        have m1 := hA.box.cell (j := 1) rfl
        obtain ⟨g3, cap3, e3, _, _, _, t0, t1, _, _⟩ := hC2.ry.at_ (p := q) (q := s) hlt2 hlt3
        obtain ⟨g4, cap4, e4, _, _, n4, u0, u1, fz, _⟩ := hA.ref.at_ (p := p) (q := s) hlt hlt3
        cases e2
        cases e3
        cases e4
        rw [Qi, Qxg] at u1
        have hval : Qdt (Qad n F) (Qad m G) (q + 1) p s = (Qdt (Qad n F) (Qad m G) q p s || Qad m G q s) := by rw [Qk6, Hv.out, Bool.true_and]
        have hA2 := hA.drew.put (p := p) (q := s) hlt hlt3 (Qdt (Qad n F) (Qad m G) q p s || Qad m G q s)
        rw [← hval, Qd2] at hA2
        cases hu : Qdt (Qad n F) (Qad m G) q p s
        ·rw [hval, hu, Bool.false_or] at hA2
         rw [hu] at u1
         clear hval hu
         go_wp2_with fail
         go_region
         all_goals
          go_wp2_with fail
          refine ⟨⟨s + 1, oW, by go_num, hA2⟩, by simp [intOf]; omega⟩
        ·rw [hval, hu, Bool.true_or] at hA2
         rw [hu] at u1
         clear hval hu
         go_wp2_with fail
         go_region
         all_goals
          go_wp2_with fail
          refine ⟨⟨s + 1, oW, by go_num, hA2⟩, by simp [intOf]; omega⟩
       ·have e : N = s := by omega
        subst e
        cases e2
        have hA2 := hA.congr (fun x y _ hy => Qsp (Qad n F) (Qad m G) N p q x y hy)
        go_wp2_with fail
        refine ⟨⟨q + 1, oW, by go_num, hA2⟩, by simp [intOf]; omega⟩
    ·have e : N = q := by omega
     subst e
     have hA2 := hA.congr (fun x y _ _ => Qxf (Qad n F) (Qad m G) N p x y)
     go_wp2_with fail
     refine ⟨⟨p + 1, oW, by go_num, hA2⟩, by simp [intOf]; omega⟩
  ·have e : N = p := by omega
   subst e
   have hA := hA.congr (G := Qdt (Qad n F) (Qad m G) N) (fun x y hx _ => by unfold Qcz; rw [if_pos hx])
   have hC2 := hC.step hA.below
   have b1 := hA.box.cell (j := 1) rfl
   have hr := hC2.res
   have d0 := hr.cell (j := 0) rfl
   have d1 := hr.cell (j := 1) rfl
   have f0 := hr.frozen 0
   have f1 := hr.frozen 1
   go_wp2_with fail
   have hres := (hr.set 0 (.int .i64 (N : Int))).set 1 (.slice x4 y4 z4)
   simp only [List.setIfInBounds_toArray, List.set_cons_zero, List.set_cons_succ] at hres
   (try simp only [Exit.inBlock, Exit.then])
   refine bodyPost_ret (Qbr rfl rfl hres) rfl ?_
   have hl := hC.res.lt
   have hA1 : RefM w.heap.size ((_ : World).setCell ⟨w.heap.size + 2, 0, none⟩ (.int .i64 ((N : Nat) : Int)) |>.setCell ⟨w.heap.size + 2, 1, none⟩ (.slice x4 y4 z4)) (.slice x4 y4 z4) N N rbw (Qdt (Qad n F) (Qad m G) N) := RefM.mono (hA.ref.below' fun g hg _ => by rw [Below.heap_setCell _ _ _ _ (by simp; omega), Below.heap_setCell _ _ _ _ (by simp; omega)]) oW
   have hB1 := (hC2.below.setCell (p := ⟨w.heap.size + 2, 0, none⟩) sW (.int .i64 (N : Int))).setCell (p := ⟨w.heap.size + 2, 1, none⟩) sW (.slice x4 y4 z4)
   first | exact ⟨_, rbw, rfl, hA1, hB1⟩ | exact ⟨_, rfl, ⟨rbw, hA1⟩, hB1⟩
def Qdd (N : Nat) (l : List (Int × Int)) : Nat → Nat → Bool := l.foldl (fun F x => Qm3 N F x.1 x.2 true) (fun _ _ => false)
theorem Qzl (N : Nat) (l : List (Int × Int)) (x : Int × Int) : Qdd N (l ++ [x]) = Qm3 N (Qdd N l) x.1 x.2 true := by simp [Qdd]
theorem Qir {N : Nat} {l : List (Int × Int)} {k : Nat} {a b : Int} (h : l[k]? = some (a, b)) : Qm3 N (Qdd N (l.take k)) a b true = Qdd N (l.take (k + 1)) := by
 rw [List.take_add_one, h]
 exact (Qzl N _ (a, b)).symm
theorem Qxh (n : Int) (v : Option Addr) (cap : Nat) (w : World) (N : Nat) (HN : Hid (Qau n = N)) (h0 : 0 ≤ n) (h9 : n ≤ 256) :
  Calls Tryz.prog 103 #[.int .i64 n, .slice v 0 cap] w fun e w' => ∃ M rb', e = .returned (.agg #[.int .i64 ((N : Nat) : Int), M]) ∧ RefM w.heap.size w' M N N rb' (Qdd N []) ∧ Below w.heap.size w w' := by
 go_enter Tryz.func103, Tryz.ntmps103
 go_wp2_with fail
 refine (Qie n h0 h9 _).mono ?_
 rw [HN.out]
 rintro e w1 ⟨M, rbw, rfl, hRM, hB1⟩
 obtain ⟨x2, y2, z2, rfl⟩ := hRM.slice
 have hA : MkAt w (w1.alloc (.cells #[.int .i64 (N : Int), .slice x2 y2 z2] 51)) 1 [(0, #[.int .i64 0, .slice none 0 0])] w1.heap.size N (.slice x2 y2 z2) rbw (Qdd N []) := by
  refine MkAt.begin ((Below.refl _ w).alloc nW _) sW ?_ hRM hB1
  intro x hx
  simp only [List.mem_cons, List.not_mem_nil, or_false] at hx
  subst hx
  exact ⟨oW, Blk.new w _ _⟩
 clear hRM hB1
 go_wp2_with fail
 generalize w1.heap.size = B at *
 go_loopw [6] (fun i wr => i = .int .i64 0 ∧ MkAt w wr 1 [(0, #[.int .i64 0, .slice none 0 0])] B N (.slice x2 y2 z2) rbw (Qdd N [])) (fun _ _ => 0)
 case atStart => exact ⟨rfl, hA⟩
 case round =>
  clear hA
  obtain ⟨rfl, hA⟩ := hrel
  have b0 := hA.box.cell (j := 0) rfl
  have b1 := hA.box.cell (j := 1) rfl
  have hr := hA.fst
  rw [Nat.add_zero] at hr
  have d0 := hr.cell (j := 0) rfl
  have d1 := hr.cell (j := 1) rfl
  have f0 := hr.frozen 0
  have f1 := hr.frozen 1
  go_wp2_with fail
  have hres := (hr.set 0 (.int .i64 (N : Int))).set 1 (.slice x2 y2 z2)
  simp only [List.setIfInBounds_toArray, List.set_cons_zero, List.set_cons_succ] at hres
  (try simp only [Exit.inBlock, Exit.then])
  refine bodyPost_ret (Qbr rfl rfl hres) rfl ?_
  obtain ⟨hA1, hB1⟩ := hA.answer (r := 0) oW
  rw [Nat.add_zero] at hA1 hB1
  first | exact ⟨_, rbw, rfl, hA1, hB1⟩ | exact ⟨_, rfl, ⟨rbw, hA1⟩, hB1⟩
theorem Qxi (n : Int) (s o cap : Nat) (l : List (Int × Int)) (w : World) (hPA : PairsAt w s o l) (hm : l.length ≤ 9223372036854775807) (N : Nat) (HN : Hid (Qau n = N)) (h0 : 0 ≤ n) (h9 : n ≤ 256) :
  Calls Tryz.prog 103 #[.int .i64 n, .slice (some ⟨s, o, none⟩) l.length cap] w fun e w' => ∃ M rb', e = .returned (.agg #[.int .i64 ((N : Nat) : Int), M]) ∧ RefM w.heap.size w' M N N rb' (Qdd N l) ∧ Below w.heap.size w w' := by
 go_enter Tryz.func103, Tryz.ntmps103
 go_wp2_with fail
 refine (Qie n h0 h9 _).mono ?_
 rw [HN.out]
 rintro e w1 ⟨M, rbw, rfl, hRM, hB1⟩
 obtain ⟨x2, y2, z2, rfl⟩ := hRM.slice
 have hA : MkAt w (w1.alloc (.cells #[.int .i64 (N : Int), .slice x2 y2 z2] 51)) 1 [(0, #[.int .i64 0, .slice none 0 0])] w1.heap.size N (.slice x2 y2 z2) rbw (Qdd N (l.take 0)) := by
  refine MkAt.begin ((Below.refl _ w).alloc nW _) sW ?_ hRM hB1
  intro x hx
  simp only [List.mem_cons, List.not_mem_nil, or_false] at hx
  subst hx
  exact ⟨oW, Blk.new w _ _⟩
 clear hRM hB1
 go_wp2_with fail
 generalize w1.heap.size = B at *
 go_loopw [6] (fun i wr => ∃ k, k ≤ l.length ∧ i = .int .i64 ((k : Nat) : Int) ∧ MkAt w wr 1 [(0, #[.int .i64 0, .slice none 0 0])] B N (.slice x2 y2 z2) rbw (Qdd N (l.take k))) (fun i _ => l.length - (intOf i).toNat)
 case atStart => exact ⟨0, oW, rfl, hA⟩
 case round =>
  clear hA
  obtain ⟨k, hk, rfl, hA⟩ := hrel
  by_cases hlt : k < l.length
  ·obtain ⟨⟨xa, xb⟩, hx⟩ : ∃ x, l[k]? = some x := ⟨_, List.getElem?_eq_getElem hlt⟩
   cases ha : inR N xa
   ·have HE0 : Hid (Qdd N (l.take k) = Qdd N (l.take (k + 1))) := by
     show _ = _
     rw [← Qir (N := N) hx]
     unfold Qm3
     rw [ha]
     rfl
    go_wp2_with fail
    have p0 := (hPA.below hA.below).fst k _ hx
    have p1 := (hPA.below hA.below).snd k _ hx
    dsimp only at p0 p1
    have K0 : (0 : Int) ≤ (k : Int) := by omega
    have K1 : (k : Int) < (l.length : Int) := by omega
    have hAd := hA.drew
    refine wp_region_held_drew (S := fun W => W.cell? ⟨B, 0, none⟩ = some (.int .i64 ((N : Nat) : Int)) ∧ W.cell? ⟨B, 1, none⟩ = some (.slice x2 y2 z2) ∧ W.cell? ⟨s, o + k * 2, none⟩ = some (.int .i64 xa) ∧ W.cell? ⟨s, o + k * 2 + 1, none⟩ = some (.int .i64 xb)) kW ⟨hA.box.cell rfl, hA.box.cell rfl, p0, p1⟩ (fun hHeld => ?_)
    clear hA p0 p1
    generalize wr.drew = W1 at *
    refine tzW 0 rfl ?_
    refine tzW 1 rfl ?_
    refine tzW 2 rfl ?_
    refine tzW 3 rfl ?_
    refine tzW 4 rfl ?_
    refine tzW 5 rfl ?_
    refine wpAnyH_ready (rs := [6]) kW sW ?_
    refine rdy rfl (fun K hK => ?_) AllReadyH.nil
    simp only [zw]
    go_simp
    refine (Qfl false N x2 y2 z2 xa _ ha).mono ?_
    rintro e w5 ⟨rfl, hB5⟩
    have hA5 := hAd.step hB5
    refine hK.out _ _ ⟨hA5.box.cell rfl, hA5.box.cell rfl, (hPA.below hA5.below).fst k _ hx, (hPA.below hA5.below).snd k _ hx⟩ (fun hHeld => ?_)
    clear hK K
    try simp only [zz]
    refine tzW 7 rfl ?_
    refine tvW 8 rfl ?_
    refine tvW 9 rfl ?_
    refine tvW 10 rfl ?_
    refine tvW 11 rfl ?_
    refine tvW 12 rfl ?_
    refine tvW 13 rfl ?_
    refine tvW 14 rfl ?_
    refine tzW 15 rfl ?_
    refine wpAnyH_done kW ?_ _
    try simp only [zz]
    clear hHeld
    rw [HE0.out] at hA5
    go_wp2_with fail
    refine ⟨⟨k + 1, oW, by go_num, hA5⟩, by simp [intOf]; omega⟩
   ·cases hb : inR N xb
    ·have HE1 : Hid (Qdd N (l.take k) = Qdd N (l.take (k + 1))) := by
      show _ = _
      rw [← Qir (N := N) hx]
      unfold Qm3
      rw [ha, hb]
      rfl
     go_wp2_with fail
     have p0 := (hPA.below hA.below).fst k _ hx
     have p1 := (hPA.below hA.below).snd k _ hx
     dsimp only at p0 p1
     have K0 : (0 : Int) ≤ (k : Int) := by omega
     have K1 : (k : Int) < (l.length : Int) := by omega
     have hAd := hA.drew
     refine wp_region_held_drew (S := fun W => W.cell? ⟨B, 0, none⟩ = some (.int .i64 ((N : Nat) : Int)) ∧ W.cell? ⟨B, 1, none⟩ = some (.slice x2 y2 z2) ∧ W.cell? ⟨s, o + k * 2, none⟩ = some (.int .i64 xa) ∧ W.cell? ⟨s, o + k * 2 + 1, none⟩ = some (.int .i64 xb)) kW ⟨hA.box.cell rfl, hA.box.cell rfl, p0, p1⟩ (fun hHeld => ?_)
     clear hA p0 p1
     generalize wr.drew = W1 at *
     refine tzW 0 rfl ?_
     refine tzW 1 rfl ?_
     refine tzW 2 rfl ?_
     refine tzW 3 rfl ?_
     refine tzW 4 rfl ?_
     refine tzW 5 rfl ?_
     refine wpAnyH_ready (rs := [6]) kW sW ?_
     refine rdy rfl (fun K hK => ?_) AllReadyH.nil
     simp only [zw]
     go_simp
     refine (Qfl true N x2 y2 z2 xa _ ha).mono ?_
     rintro e w5 ⟨rfl, hB5⟩
     have hA5 := hAd.step hB5
     refine hK.out _ _ ⟨hA5.box.cell rfl, hA5.box.cell rfl, (hPA.below hA5.below).fst k _ hx, (hPA.below hA5.below).snd k _ hx⟩ (fun hHeld => ?_)
     clear hK K
     try simp only [zz]
     refine tzW 7 rfl ?_
     refine tzW 8 rfl ?_
     refine tzW 9 rfl ?_
     refine tzW 10 rfl ?_
     refine tzW 11 rfl ?_
     refine tzW 12 rfl ?_
     refine tzW 13 rfl ?_
     refine wpAnyH_ready (rs := [14]) kW sW ?_
     refine rdy rfl (fun K hK => ?_) AllReadyH.nil
     simp only [zw]
     go_simp
     refine (Qfl false N x2 y2 z2 xb _ hb).mono ?_
     rintro e w6 ⟨rfl, hB6⟩
     have hA6 := hA5.step hB6
     refine hK.out _ _ ⟨hA6.box.cell rfl, hA6.box.cell rfl, (hPA.below hA6.below).fst k _ hx, (hPA.below hA6.below).snd k _ hx⟩ (fun hHeld => ?_)
     clear hK K
     try simp only [zz]
     refine tzW 15 rfl ?_
     refine wpAnyH_done kW ?_ _
     try simp only [zz]
     clear hHeld
     rw [HE1.out] at hA6
     go_wp2_with fail
     refine ⟨⟨k + 1, oW, by go_num, hA6⟩, by simp [intOf]; omega⟩
    ·have HE2 : Hid (upd (Qdd N (l.take k)) xa.toNat xb.toNat true = Qdd N (l.take (k + 1))) := by
      show _ = _
      rw [← Qir (N := N) hx]
      unfold Qm3
      rw [ha, hb]
      rfl
     go_wp2_with fail
     have p0 := (hPA.below hA.below).fst k _ hx
     have p1 := (hPA.below hA.below).snd k _ hx
     dsimp only at p0 p1
     have K0 : (0 : Int) ≤ (k : Int) := by omega
     have K1 : (k : Int) < (l.length : Int) := by omega
     have hAd := hA.drew
     refine wp_region_held_drew (S := fun W => W.cell? ⟨B, 0, none⟩ = some (.int .i64 ((N : Nat) : Int)) ∧ W.cell? ⟨B, 1, none⟩ = some (.slice x2 y2 z2) ∧ W.cell? ⟨s, o + k * 2, none⟩ = some (.int .i64 xa) ∧ W.cell? ⟨s, o + k * 2 + 1, none⟩ = some (.int .i64 xb)) kW ⟨hA.box.cell rfl, hA.box.cell rfl, p0, p1⟩ (fun hHeld => ?_)
     clear hA p0 p1
     generalize wr.drew = W1 at *
     refine tzW 0 rfl ?_
     refine tzW 1 rfl ?_
     refine tzW 2 rfl ?_
     refine tzW 3 rfl ?_
     refine tzW 4 rfl ?_
     refine tzW 5 rfl ?_
     refine wpAnyH_ready (rs := [6]) kW sW ?_
     refine rdy rfl (fun K hK => ?_) AllReadyH.nil
     simp only [zw]
     go_simp
     refine (Qfl true N x2 y2 z2 xa _ ha).mono ?_
     rintro e w5 ⟨rfl, hB5⟩
     have hA5 := hAd.step hB5
     refine hK.out _ _ ⟨hA5.box.cell rfl, hA5.box.cell rfl, (hPA.below hA5.below).fst k _ hx, (hPA.below hA5.below).snd k _ hx⟩ (fun hHeld => ?_)
     clear hK K
     try simp only [zz]
     refine tzW 7 rfl ?_
     refine tzW 8 rfl ?_
     refine tzW 9 rfl ?_
     refine tzW 10 rfl ?_
     refine tzW 11 rfl ?_
     refine tzW 12 rfl ?_
     refine tzW 13 rfl ?_
     refine wpAnyH_ready (rs := [14]) kW sW ?_
     refine rdy rfl (fun K hK => ?_) AllReadyH.nil
     simp only [zw]
     go_simp
     refine (Qfl true N x2 y2 z2 xb _ hb).mono ?_
     rintro e w6 ⟨rfl, hB6⟩
     have hA6 := hA5.step hB6
     refine hK.out _ _ ⟨hA6.box.cell rfl, hA6.box.cell rfl, (hPA.below hA6.below).fst k _ hx, (hPA.below hA6.below).snd k _ hx⟩ (fun hHeld => ?_)
     clear hK K
     try simp only [zz]
     refine tzW 15 rfl ?_
     refine wpAnyH_done kW ?_ _
     try simp only [zz]
     clear hHeld
     have hA7 := hA6
     clear hA5 hA6 hB5 hB6
     have hpa := (hPA.below hA7.below).fst k _ hx
     have hpb := (hPA.below hA7.below).snd k _ hx
     dsimp only at hpa hpb
     obtain ⟨pa, rfl⟩ : ∃ pa : Nat, xa = ((pa : Nat) : Int) := ⟨xa.toNat, by unfold inR at ha; simp at ha; omega⟩
     obtain ⟨pb, rfl⟩ : ∃ pb : Nat, xb = ((pb : Nat) : Int) := ⟨xb.toNat, by unfold inR at hb; simp at hb; omega⟩
     have hpaN : pa < N := by unfold inR at ha; simp at ha; omega
     have hpbN : pb < N := by unfold inR at hb; simp at hb; omega
     have d1 := hA7.box.cell (j := 1) rfl
     obtain ⟨g2, cap2, e2, _, _, n2, s0, s1, fz, q3⟩ := hA7.ref.at_ (p := pa) (q := pb) hpaN hpbN
     cases e2
     have hA8 := hA7.drew.put (p := pa) (q := pb) hpaN hpbN true
     rw [show upd (Qdd N (l.take k)) pa pb true = Qdd N (l.take (k + 1)) from HE2.out] at hA8
     clear hx ha hb
     go_wp2_with fail
     go_region
     all_goals
      go_wp2_with fail
      refine ⟨⟨k + 1, oW, by go_num, hA8⟩, by simp [intOf]; omega⟩
  ·have e : l.length = k := by omega
   rw [← e, List.take_length] at hA
   subst e
   clear hPA
   have b0 := hA.box.cell (j := 0) rfl
   have b1 := hA.box.cell (j := 1) rfl
   have hr := hA.fst
   rw [Nat.add_zero] at hr
   have d0 := hr.cell (j := 0) rfl
   have d1 := hr.cell (j := 1) rfl
   have f0 := hr.frozen 0
   have f1 := hr.frozen 1
   go_wp2_with fail
   have hres := (hr.set 0 (.int .i64 (N : Int))).set 1 (.slice x2 y2 z2)
   simp only [List.setIfInBounds_toArray, List.set_cons_zero, List.set_cons_succ] at hres
   (try simp only [Exit.inBlock, Exit.then])
   refine bodyPost_ret (Qbr rfl rfl hres) rfl ?_
   obtain ⟨hA1, hB1⟩ := hA.answer (r := 0) oW
   rw [Nat.add_zero] at hA1 hB1
   first | exact ⟨_, rbw, rfl, hA1, hB1⟩ | exact ⟨_, rfl, ⟨rbw, hA1⟩, hB1⟩
theorem Qum (n : Int) (v : Value) (l : List (Int × Int)) (w : World) (h : PArg w v l) (h0 : 0 ≤ n) (h9 : n ≤ 256) :
  Calls Tryz.prog 103 #[.int .i64 n, v] w fun e w' => ∃ M rb', e = .returned (.agg #[.int .i64 ((Qau n : Nat) : Int), M]) ∧ RefM w.heap.size w' M (Qau n) (Qau n) rb' (Qdd (Qau n) l) ∧ Below w.heap.size w w' := by
 rcases h with ⟨x, cap, rfl, rfl⟩ | ⟨s, o, cap, rfl, h2, h3⟩
 ·exact Qxh n x cap w _ rfl h0 h9
 ·exact Qxi n s o cap l w h2 h3 _ rfl h0 h9
def SetArg (w : World) (v : Value) (l : List Bool) : Prop := (∃ a cap, v = .slice a 0 cap ∧ l = []) ∨ ∃ s o cap, v = .slice (some ⟨s, o, none⟩) l.length cap ∧ s < w.heap.size ∧ ∀ (i : Nat) (x : Bool), l[i]? = some x → w.cell? ⟨s, o + i, none⟩ = some (.bool x)
theorem SetArg.below {w w' : World} {v : Value} {l : List Bool} (h : SetArg w v l) (hb : Below w.heap.size w w') : SetArg w' v l := by
 rcases h with h | ⟨s, o, cap, h1, h2, h3⟩
 ·exact .inl h
 ·exact .inr ⟨s, o, cap, h1, Nat.lt_of_lt_of_le h2 hb.size, fun i x hx => (hb.cell (p := ⟨s, o + i, none⟩) h2).trans (h3 i x hx)⟩
theorem Qun (v : Value) (l : List Bool) (p : Nat) (w : World) (h : SetArg w v l) :
  Calls Tryz.prog 104 #[v, .int .i64 ((p : Nat) : Int)] w fun e w' => e = .returned (.bool (l.getD p false)) ∧ Below w.heap.size w w' := by
 have hv : ∃ a cap, v = .slice a l.length cap := by
  rcases h with ⟨a, cap, rfl, rfl⟩ | ⟨s, o, cap, rfl, _⟩
  ·exact ⟨_, _, rfl⟩
  ·exact ⟨_, _, rfl⟩
 by_cases hp : p < l.length
 ·obtain ⟨s, o, cap, rfl, _, hc⟩ : ∃ s o cap, v = .slice (some ⟨s, o, none⟩) l.length cap ∧ s < w.heap.size ∧ ∀ (i : Nat) (x : Bool), l[i]? = some x → w.cell? ⟨s, o + i, none⟩ = some (.bool x) := by
   rcases h with ⟨a, cap, _, rfl⟩ | h
   ·simp at hp
   ·exact h
  have hx := hc p _ (List.getElem?_eq_getElem hp)
  have e : l.getD p false = l[p] := by rw [List.getD_eq_getElem?_getD, List.getElem?_eq_getElem hp]; rfl
  rw [e]
  clear e hc h hv
  generalize l[p] = b at *
  go_enter Tryz.func104, Tryz.ntmps104
  go_wp2_with fail
  go_ret
  exact ⟨rfl, Below.refl _ _⟩
 ·obtain ⟨a, cap, rfl⟩ := hv
  have e : l.getD p false = false := by rw [List.getD_eq_getElem?_getD, List.getElem?_eq_none oW]; rfl
  rw [e]
  clear e h
  go_enter Tryz.func104, Tryz.ntmps104
  go_wp2_with fail
  go_ret
  exact ⟨rfl, Below.refl _ _⟩
theorem Qpc (lo lo2 n m N : Nat) (hn : n ≤ 256) (hm : m ≤ 256) (HN : Hid (N = max n m)) (x : Option Addr) (y z : Nat) (rb : Nat → Nat) (F : Nat → Nat → Bool) (x1 : Option Addr) (y1 z1 : Nat) (rb1 : Nat → Nat) (G : Nat → Nat → Bool) (w : World) (h : RefM lo w (.slice x y z) n n rb F) (h1 : RefM lo2 w (.slice x1 y1 z1) m m rb1 G) :
  Calls Tryz.prog 107 #[.agg #[.int .i64 ((n : Nat) : Int), .slice x y z], .agg #[.int .i64 ((m : Nat) : Int), .slice x1 y1 z1]] w fun e w' => ∃ M rb', e = .returned (.agg #[.int .i64 ((N : Nat) : Int), M]) ∧ RefM w.heap.size w' M N N rb' (fun p q => Qad n F p q || Qad m G p q) ∧ Below w.heap.size w w' := by
 have hN : N ≤ 256 := by have := HN.out; omega
 have hnN : n ≤ N := by have := HN.out; omega
 have hmN : m ≤ N := by have := HN.out; omega
 go_enter Tryz.func107, Tryz.ntmps107
 go_wp2_with fail
 refine (Qe8 lo n hn x y z rb F m N hm HN _ (((h.alloc _).alloc _).alloc _)).mono ?_
 rintro e w1 ⟨M, rbw, rfl, hRM, hB1⟩
 obtain ⟨x2, y2, z2, rfl⟩ := hRM.slice
 have hA : MkAt w (w1.alloc (.cells #[.int .i64 ((N : Nat) : Int), .slice x2 y2 z2] 51)) 3 [(0, #[.int .i64 ((n : Nat) : Int), .slice x y z]), (1, #[.int .i64 ((m : Nat) : Int), .slice x1 y1 z1]), (2, #[.int .i64 0, .slice none 0 0])] w1.heap.size N (.slice x2 y2 z2) rbw (Qaj (fun p q => Qad n F p q || G p q) (Qad n F) m 0 0) := by
  refine MkAt.begin ((((Below.refl _ w).alloc nW _).alloc sW _).alloc (by simp; omega) _) sW ?_ (hRM.congr fun p q hp hq => ?_) hB1
  ·intro x hx
   simp only [List.mem_cons, List.not_mem_nil, or_false] at hx
   rcases hx with rfl | rfl | rfl
   ·exact ⟨oW, ((Blk.new w _ _).alloc _).alloc _⟩
   ·exact ⟨oW, (Blk.new2 w _ _ _).alloc _⟩
   ·exact ⟨oW, Blk.new3 w _ _ _ _⟩
  ·rw [Qct, Qgh]
 clear hRM hB1
 go_wp2_with fail
 generalize w1.heap.size = B at *
 go_loopw [6] (fun i wr => ∃ a, a ≤ m ∧ i = .int .i64 ((a : Nat) : Int) ∧ MkAt w wr 3 [(0, #[.int .i64 ((n : Nat) : Int), .slice x y z]), (1, #[.int .i64 ((m : Nat) : Int), .slice x1 y1 z1]), (2, #[.int .i64 0, .slice none 0 0])] B N (.slice x2 y2 z2) rbw (Qaj (fun p q => Qad n F p q || G p q) (Qad n F) m a 0)) (fun i _ => m - (intOf i).toNat)
 case atStart => exact ⟨0, oW, rfl, hA⟩
 case round =>
  clear hA
  obtain ⟨a, ha, rfl, hA⟩ := hrel
  (try dsimp only at hA)
  have c0 := hA.snd.cell (j := 0) rfl
  by_cases hlt : a < m
  ·go_wp2_with fail
   clear c0
   go_loopw [7] (fun i wr => ∃ b, b ≤ m ∧ i = .int .i64 ((b : Nat) : Int) ∧ MkAt w wr 3 [(0, #[.int .i64 ((n : Nat) : Int), .slice x y z]), (1, #[.int .i64 ((m : Nat) : Int), .slice x1 y1 z1]), (2, #[.int .i64 0, .slice none 0 0])] B N (.slice x2 y2 z2) rbw (Qaj (fun p q => Qad n F p q || G p q) (Qad n F) m a b)) (fun i _ => m - (intOf i).toNat)
   case atStart => exact ⟨0, oW, rfl, hA⟩
   case round =>
    clear hA
    obtain ⟨b, hb, rfl, hA⟩ := hrel
    (try dsimp only at hA)
    have c0 := hA.snd.cell (j := 0) rfl
    by_cases hlt2 : b < m
    ·skip
     have c2 := hA.snd.cell (j := 1) rfl
     have d1 := hA.box.cell (j := 1) rfl
     obtain ⟨g1, cap1, e1, q1, _, _, r0, r1, _, _⟩ := (h1.below hA.below).at_ hlt hlt2
     obtain ⟨g2, cap2, e2, q2, _, n2, s0, s1, fz, q3⟩ := hA.ref.at_ (p := a) (q := b) oW oW
     cases e1
     cases e2
     rw [Qi] at s1
     have hA2 := hA.drew.put (p := a) (q := b) oW oW (Qad n F a b || G a b)
     rw [Qd2 (fun p q => Qad n F p q || G p q)] at hA2
     have haN : a < N := by omega
     have hbN : b < N := by omega
     cases hv : Qad n F a b
     ·rw [hv] at s1 hA2
      rw [Bool.false_or] at hA2
      go_wp2_with fail
      go_region
      all_goals
       go_wp2_with fail
       refine ⟨⟨b + 1, oW, by go_num, hA2⟩, by simp [intOf]; omega⟩
     ·rw [hv] at s1 hA2
      rw [Bool.true_or] at hA2
      go_wp2_with fail
      go_region
      all_goals
       go_wp2_with fail
       refine ⟨⟨b + 1, oW, by go_num, hA2⟩, by simp [intOf]; omega⟩
    ·have e : m = b := by omega
     subst e
     rw [Qdb] at hA
     go_wp2_with fail
     refine ⟨⟨a + 1, oW, by go_num, hA⟩, by simp [intOf]; omega⟩
  ·have e : m = a := by omega
   subst e
   have hA := hA.congr (G := fun p q => Qad n F p q || Qad m G p q) (fun p q hp hq => by exact Qxa n m F G p q)
   have b0 := hA.box.cell (j := 0) rfl
   have b1 := hA.box.cell (j := 1) rfl
   have hr := hA.trd
   have d0 := hr.cell (j := 0) rfl
   have d1 := hr.cell (j := 1) rfl
   have f0 := hr.frozen 0
   have f1 := hr.frozen 1
   go_wp2_with fail
   have hres := (hr.set 0 (.int .i64 (N : Int))).set 1 (.slice x2 y2 z2)
   simp only [List.setIfInBounds_toArray, List.set_cons_zero, List.set_cons_succ] at hres
   (try simp only [Exit.inBlock, Exit.then])
   refine bodyPost_ret (Qbr rfl rfl hres) rfl ?_
   obtain ⟨hA1, hB1⟩ := hA.answer (r := 2) oW
   first | exact ⟨_, rbw, rfl, hA1, hB1⟩ | exact ⟨_, rfl, ⟨rbw, hA1⟩, hB1⟩
theorem Qpd (lo lo2 n m N : Nat) (hn : n ≤ 256) (hm : m ≤ 256) (HN : Hid (N = max n m)) (x : Option Addr) (y z : Nat) (rb : Nat → Nat) (F : Nat → Nat → Bool) (x1 : Option Addr) (y1 z1 : Nat) (rb1 : Nat → Nat) (G : Nat → Nat → Bool) (w : World) (h : RefM lo w (.slice x y z) n n rb F) (h1 : RefM lo2 w (.slice x1 y1 z1) m m rb1 G) :
  Calls Tryz.prog 52 #[.agg #[.int .i64 ((n : Nat) : Int), .slice x y z], .agg #[.int .i64 ((m : Nat) : Int), .slice x1 y1 z1]] w fun e w' => ∃ M rb', e = .returned (.agg #[.int .i64 ((N : Nat) : Int), M]) ∧ RefM w.heap.size w' M N N rb' (fun p q => Qad n F p q && Qad m G p q) ∧ Below w.heap.size w w' := by
 have hN : N ≤ 256 := by have := HN.out; omega
 have hnN : n ≤ N := by have := HN.out; omega
 have hmN : m ≤ N := by have := HN.out; omega
 go_enter Tryz.func52, Tryz.ntmps52
 go_wp2_with fail
 refine (Qe8 lo n hn x y z rb F m N hm HN _ (((h.alloc _).alloc _).alloc _)).mono ?_
 rintro e w1 ⟨M, rbw, rfl, hRM, hB1⟩
 obtain ⟨x2, y2, z2, rfl⟩ := hRM.slice
 have hA : MkAt w (w1.alloc (.cells #[.int .i64 ((N : Nat) : Int), .slice x2 y2 z2] 51)) 3 [(0, #[.int .i64 ((n : Nat) : Int), .slice x y z]), (1, #[.int .i64 ((m : Nat) : Int), .slice x1 y1 z1]), (2, #[.int .i64 0, .slice none 0 0])] w1.heap.size N (.slice x2 y2 z2) rbw (Qaj (fun p q => Qad n F p q && Qad m G p q) (Qad n F) N 0 0) := by
  refine MkAt.begin ((((Below.refl _ w).alloc nW _).alloc sW _).alloc (by simp; omega) _) sW ?_ (hRM.congr fun p q hp hq => ?_) hB1
  ·intro x hx
   simp only [List.mem_cons, List.not_mem_nil, or_false] at hx
   rcases hx with rfl | rfl | rfl
   ·exact ⟨oW, ((Blk.new w _ _).alloc _).alloc _⟩
   ·exact ⟨oW, (Blk.new2 w _ _ _).alloc _⟩
   ·exact ⟨oW, Blk.new3 w _ _ _ _⟩
  ·rw [Qct, Qgh]
 clear hRM hB1
 go_wp2_with fail
 generalize w1.heap.size = B at *
 go_loopw [6] (fun i wr => ∃ a, a ≤ N ∧ i = .int .i64 ((a : Nat) : Int) ∧ MkAt w wr 3 [(0, #[.int .i64 ((n : Nat) : Int), .slice x y z]), (1, #[.int .i64 ((m : Nat) : Int), .slice x1 y1 z1]), (2, #[.int .i64 0, .slice none 0 0])] B N (.slice x2 y2 z2) rbw (Qaj (fun p q => Qad n F p q && Qad m G p q) (Qad n F) N a 0)) (fun i _ => N - (intOf i).toNat)
 case atStart => exact ⟨0, oW, rfl, hA⟩
 case round =>
  clear hA
  obtain ⟨a, ha, rfl, hA⟩ := hrel
  (try dsimp only at hA)
  have c0 := hA.box.cell (j := 0) rfl
  by_cases hlt : a < N
  ·go_wp2_with fail
   clear c0
   go_loopw [7] (fun i wr => ∃ b, b ≤ N ∧ i = .int .i64 ((b : Nat) : Int) ∧ MkAt w wr 3 [(0, #[.int .i64 ((n : Nat) : Int), .slice x y z]), (1, #[.int .i64 ((m : Nat) : Int), .slice x1 y1 z1]), (2, #[.int .i64 0, .slice none 0 0])] B N (.slice x2 y2 z2) rbw (Qaj (fun p q => Qad n F p q && Qad m G p q) (Qad n F) N a b)) (fun i _ => N - (intOf i).toNat)
   case atStart => exact ⟨0, oW, rfl, hA⟩
   case round =>
    clear hA
    obtain ⟨b, hb, rfl, hA⟩ := hrel
    (try dsimp only at hA)
    have c0 := hA.box.cell (j := 0) rfl
    by_cases hlt2 : b < N
    ·skip
     have d1 := hA.box.cell (j := 1) rfl
     have c2 := hA.snd.cell (j := 1) rfl
     obtain ⟨g2, cap2, e2, q2, _, n2, s0, s1, fz, q3⟩ := hA.ref.at_ (p := a) (q := b) oW oW
     cases e2
     rw [Qi] at s1
     have haN : a < N := by omega
     have hbN : b < N := by omega
     cases hv : Qad n F a b
     ·rw [hv] at s1
      have hA2 := (hA.drew.put (p := a) (q := b) oW oW false).congr (G := Qaj (fun p q => Qad n F p q && Qad m G p q) (Qad n F) N a (b + 1)) (fun p q _ _ => congrFun (congrFun (Qhn (G := fun p q => Qad n F p q && Qad m G p q) (by rw [hv, Bool.false_and])) p) q)
      go_wp2_with fail
      go_region
      all_goals
       go_wp2_with fail
       refine ⟨⟨b + 1, oW, by go_num, hA2⟩, by simp [intOf]; omega⟩
     ·rw [hv] at s1
      go_wp2_with fail
      have k0 := hA.snd.cell (j := 0) rfl
      have k1 := hA.snd.cell (j := 1) rfl
      have A0 : (0 : Int) ≤ (a : Int) := by omega
      have A1 : (a : Int) < (N : Int) := by omega
      have B0 : (0 : Int) ≤ (b : Int) := by omega
      have B1 : (b : Int) < (N : Int) := by omega
      have hAd := hA.drew
      have s1' : wr.drew.cell? ⟨rbw a, b, none⟩ = some (.bool true) := s1
      refine wp_region_held_drew (S := fun W => W.cell? ⟨B, 1, none⟩ = some (.slice (some ⟨g2, 0, none⟩) N z2) ∧ W.cell? ⟨g2, a, none⟩ = some (hdr N (rbw a)) ∧ W.cell? ⟨w.heap.size + 1, 0, none⟩ = some (.int .i64 ((m : Nat) : Int)) ∧ W.cell? ⟨w.heap.size + 1, 1, none⟩ = some (.slice x1 y1 z1)) kW ⟨d1, s0, k0, k1⟩ (fun hHeld => ?_)
      clear hA s0 s1 d1 k0 k1 c0 c2 fz
      generalize wr.drew = W1 at *
      refine tzW 0 rfl ?_
      refine tzW 1 rfl ?_
      refine tzW 2 rfl ?_
      refine tzW 3 rfl ?_
      refine tzW 4 rfl ?_
      refine tzW 5 rfl ?_
      refine tzW 6 rfl ?_
      refine tzW 7 rfl ?_
      refine tzW 8 rfl ?_
      refine tzW 9 rfl ?_
      refine tzW 10 rfl ?_
      refine tzW 11 rfl ?_
      refine tzW 12 rfl ?_
      refine wpAnyH_ready (rs := [13]) kW sW ?_
      refine rdy rfl (fun K hK => ?_) AllReadyH.nil
      simp only [zw]
      go_simp
      refine hK.out _ _ hHeld (fun hHeld => ?_)
      clear hK K s1'
      try simp only [zz]
      refine tzW 14 rfl ?_
      refine tzW 15 rfl ?_
      refine tzW 16 rfl ?_
      refine tzW 17 rfl ?_
      refine wpAnyH_ready (rs := [18]) kW sW ?_
      refine rdy rfl (fun K hK => ?_) AllReadyH.nil
      simp only [zw]
      go_simp
      refine (Qlo lo2 m x1 y1 z1 rb1 G _ _ _ (h1.below hAd.below)).mono ?_
      rintro e w5 ⟨rfl, hB5⟩
      have hA5 := hAd.step hB5
      rw [Qm4]
      have hA6 := hA5.put (p := a) (q := b) haN hbN (Qad m G a b)
      obtain ⟨_, _, e3, _, _, _, s3, s2, fz, _⟩ := hA5.ref.at_ (p := a) (q := b) haN hbN
      cases e3
      refine hK.out _ _ ⟨hA5.box.cell rfl, s3, hA5.snd.cell rfl, hA5.snd.cell rfl⟩ (fun hHeld => ?_)
      clear hK K hAd hB5 s3
      try simp only [zz]
      refine tzW 19 rfl ?_
      refine tzW 20 rfl ?_
      refine wpAnyH_ready (rs := [21]) kW sW ?_
      refine rdy rfl (fun K hK => ?_) AllReadyH.nil
      simp only [zw]
      go_simp
      obtain ⟨_, _, e3, _, _, _, s3, _, _, _⟩ := hA6.ref.at_ (p := a) (q := b) haN hbN
      cases e3
      refine hK.out _ _ ⟨hA6.box.cell rfl, s3, hA6.snd.cell rfl, hA6.snd.cell rfl⟩ (fun hHeld => ?_)
      clear hK K hHeld s3
      refine wpAnyH_done kW ?_ _
      try simp only [zz]
      have hA7 := hA6.congr (G := Qaj (fun p q => Qad n F p q && Qad m G p q) (Qad n F) N a (b + 1)) (fun p q _ _ => congrFun (congrFun (Qhn (G := fun p q => Qad n F p q && Qad m G p q) (by rw [hv, Bool.true_and])) p) q)
      clear hA6 s2 fz
      go_wp2_with fail
      refine ⟨⟨b + 1, oW, by go_num, hA7⟩, by simp [intOf]; omega⟩
    ·have e : N = b := by omega
     subst e
     rw [Qdb] at hA
     go_wp2_with fail
     refine ⟨⟨a + 1, oW, by go_num, hA⟩, by simp [intOf]; omega⟩
  ·have e : N = a := by omega
   subst e
   have hA := hA.congr (G := fun p q => Qad n F p q && Qad m G p q) (fun p q hp hq => by exact Qd6 hp hq)
   have b0 := hA.box.cell (j := 0) rfl
   have b1 := hA.box.cell (j := 1) rfl
   have hr := hA.trd
   have d0 := hr.cell (j := 0) rfl
   have d1 := hr.cell (j := 1) rfl
   have f0 := hr.frozen 0
   have f1 := hr.frozen 1
   go_wp2_with fail
   have hres := (hr.set 0 (.int .i64 (N : Int))).set 1 (.slice x2 y2 z2)
   simp only [List.setIfInBounds_toArray, List.set_cons_zero, List.set_cons_succ] at hres
   (try simp only [Exit.inBlock, Exit.then])
   refine bodyPost_ret (Qbr rfl rfl hres) rfl ?_
   obtain ⟨hA1, hB1⟩ := hA.answer (r := 2) oW
   first | exact ⟨_, rbw, rfl, hA1, hB1⟩ | exact ⟨_, rfl, ⟨rbw, hA1⟩, hB1⟩
def idF (l : List Bool) (k : Nat) : Nat → Nat → Bool := fun p q => decide (p = q) && (decide (p < k) && l.getD p false)
theorem QBv (l : List Bool) (p q : Nat) : idF l 0 p q = false := by simp [idF]
theorem QE5 (l : List Bool) (k p q : Nat) : upd (idF l k) k k (l.getD k false) p q = idF l (k + 1) p q := by
 unfold upd idF
 by_cases h : p = k ∧ q = k
 ·obtain ⟨rfl, rfl⟩ := h
  simp
 ·rw [if_neg h]
  by_cases e : p = q
  ·subst e
   have hk : p ≠ k := fun e => h ⟨e, e⟩
   have : decide (p < k) = decide (p < k + 1) := by rw [decide_eq_decide]; omega
   rw [this]
  ·simp [e]
theorem Quo (n : Int) (v : Value) (l : List Bool) (w : World) (hS0 : SetArg w v l) (N : Nat) (HN : Hid (Qau n = N)) (h0 : 0 ≤ n) (h9 : n ≤ 256) :
  Calls Tryz.prog 49 #[.int .i64 n, v] w fun e w' => ∃ M rb', e = .returned (.agg #[.int .i64 ((N : Nat) : Int), M]) ∧ RefM w.heap.size w' M N N rb' (idF l N) ∧ Below w.heap.size w w' := by
 have hN : N ≤ 256 := by rw [← HN.out]; unfold Qau; omega
 go_enter Tryz.func49, Tryz.ntmps49
 go_wp2_with fail
 refine (Qie n h0 h9 _).mono ?_
 rw [HN.out]
 rintro e w1 ⟨M, rbw, rfl, hRM, hB1⟩
 obtain ⟨x2, y2, z2, rfl⟩ := hRM.slice
 have hA : MkAt w (w1.alloc (.cells #[.int .i64 (N : Int), .slice x2 y2 z2] 51)) 1 [(0, #[.int .i64 0, .slice none 0 0])] w1.heap.size N (.slice x2 y2 z2) rbw (idF l 0) := by
  refine MkAt.begin ((Below.refl _ w).alloc nW _) sW ?_ (hRM.congr fun p q hp hq => (QBv l p q).symm) hB1
  intro x hx
  simp only [List.mem_cons, List.not_mem_nil, or_false] at hx
  subst hx
  exact ⟨oW, Blk.new w _ _⟩
 clear hRM hB1
 go_wp2_with fail
 generalize w1.heap.size = B at *
 go_loopw [6] (fun i wr => ∃ a, a ≤ N ∧ i = .int .i64 ((a : Nat) : Int) ∧ MkAt w wr 1 [(0, #[.int .i64 0, .slice none 0 0])] B N (.slice x2 y2 z2) rbw (idF l a)) (fun i _ => N - (intOf i).toNat)
 case atStart => exact ⟨0, oW, rfl, hA⟩
 case round =>
  clear hA
  obtain ⟨a, ha, rfl, hA⟩ := hrel
  have c0 := hA.box.cell (j := 0) rfl
  by_cases hlt : a < N
  ·have d1 := hA.box.cell (j := 1) rfl
   obtain ⟨g2, cap2, e2, q2, _, n2, s0, s1, fz, q3⟩ := hA.ref.at_ (p := a) (q := a) hlt hlt
   cases e2
   go_wp2_with fail
   have A0 : (0 : Int) ≤ (a : Int) := by omega
   have A1 : (a : Int) < (N : Int) := by omega
   have hAd := hA.drew
   refine wp_region_held_drew (S := fun W => W.cell? ⟨B, 1, none⟩ = some (.slice (some ⟨g2, 0, none⟩) N z2) ∧ W.cell? ⟨g2, a, none⟩ = some (hdr N (rbw a))) kW ⟨d1, s0⟩ (fun hHeld => ?_)
   clear hA s0 s1 d1 c0 fz
   generalize wr.drew = W1 at *
   refine tzW 0 rfl ?_
   refine tzW 1 rfl ?_
   refine tzW 2 rfl ?_
   refine tzW 3 rfl ?_
   refine tzW 4 rfl ?_
   refine tzW 5 rfl ?_
   refine tzW 6 rfl ?_
   refine tzW 7 rfl ?_
   refine wpAnyH_ready (rs := [8]) kW sW ?_
   refine rdy rfl (fun K hK => ?_) AllReadyH.nil
   simp only [zw]
   go_simp
   refine (Qun v l a _ (hS0.below hAd.below)).mono ?_
   rintro e w5 ⟨rfl, hB5⟩
   have hA5 := hAd.step hB5
   have hA6 := hA5.put (p := a) (q := a) hlt hlt (l.getD a false)
   obtain ⟨_, _, e3, _, _, _, s3, s2, fz, _⟩ := hA5.ref.at_ (p := a) (q := a) hlt hlt
   cases e3
   refine hK.out _ _ ⟨hA5.box.cell rfl, s3⟩ (fun hHeld => ?_)
   clear hK K hAd hB5 s3
   try simp only [zz]
   refine tzW 9 rfl ?_
   refine wpAnyH_ready (rs := [10]) kW sW ?_
   refine rdy rfl (fun K hK => ?_) AllReadyH.nil
   simp only [zw]
   go_simp
   obtain ⟨_, _, e3, _, _, _, s3, _, _, _⟩ := hA6.ref.at_ (p := a) (q := a) hlt hlt
   cases e3
   refine hK.out _ _ ⟨hA6.box.cell rfl, s3⟩ (fun hHeld => ?_)
   clear hK K hHeld s3
   refine wpAnyH_done kW ?_ _
   try simp only [zz]
   have hA7 := hA6.congr (G := idF l (a + 1)) (fun p q _ _ => QE5 l a p q)
   clear hA6 s2 fz
   go_wp2_with fail
   refine ⟨⟨a + 1, oW, by go_num, hA7⟩, by simp [intOf]; omega⟩
  ·have e : N = a := by omega
   subst e
   have b1 := hA.box.cell (j := 1) rfl
   have hr := hA.fst
   rw [Nat.add_zero] at hr
   have d0 := hr.cell (j := 0) rfl
   have d1 := hr.cell (j := 1) rfl
   have f0 := hr.frozen 0
   have f1 := hr.frozen 1
   go_wp2_with fail
   have hres := (hr.set 0 (.int .i64 (N : Int))).set 1 (.slice x2 y2 z2)
   simp only [List.setIfInBounds_toArray, List.set_cons_zero, List.set_cons_succ] at hres
   (try simp only [Exit.inBlock, Exit.then])
   refine bodyPost_ret (Qbr rfl rfl hres) rfl ?_
   obtain ⟨hA1, hB1⟩ := hA.answer (r := 0) oW
   rw [Nat.add_zero] at hA1 hB1
   first | exact ⟨_, rbw, rfl, hA1, hB1⟩ | exact ⟨_, rfl, ⟨rbw, hA1⟩, hB1⟩
theorem Qm5 (lo N : Nat) (hN : N ≤ 256) (x : Option Addr) (y z : Nat) (rb : Nat → Nat) (F : Nat → Nat → Bool) (w : World) (h : RefM lo w (.slice x y z) N N rb F) :
  Calls Tryz.prog 102 #[.agg #[.int .i64 ((N : Nat) : Int), .slice x y z]] w fun e w' => ∃ M rb', e = .returned (.agg #[.int .i64 ((N : Nat) : Int), M]) ∧ RefM w.heap.size w' M N N rb' (fun p q => F q p) ∧ Below w.heap.size w w' := by
 go_enter Tryz.func102, Tryz.ntmps102
 go_wp2_with fail
 refine (Qd N hN _).mono ?_
 rintro e w1 ⟨M, rbw, rfl, hRM, hB1⟩
 obtain ⟨x2, y2, z2, rfl⟩ := hRM.slice
 have hA : MkAt w (w1.alloc (.cells #[.int .i64 ((N : Nat) : Int), .slice x2 y2 z2] 51)) 2 [(0, #[.int .i64 ((N : Nat) : Int), .slice x y z]), (1, #[.int .i64 0, .slice none 0 0])] w1.heap.size N (.slice x2 y2 z2) rbw (fun p q => Qaj F (fun _ _ => false) N 0 0 q p) := by
  refine MkAt.begin (((Below.refl _ w).alloc nW _).alloc sW _) sW ?_ (hRM.congr fun p q hp hq => ?_) hB1
  ·intro x hx
   simp only [List.mem_cons, List.not_mem_nil, or_false] at hx
   rcases hx with rfl | rfl
   ·exact ⟨oW, (Blk.new w _ _).alloc _⟩
   ·exact ⟨oW, Blk.new2 w _ _ _⟩
  ·rw [Qct]
 clear hRM hB1
 go_wp2_with fail
 generalize w1.heap.size = B at *
 go_loopw [4] (fun i wr => ∃ a, a ≤ N ∧ i = .int .i64 ((a : Nat) : Int) ∧ MkAt w wr 2 [(0, #[.int .i64 ((N : Nat) : Int), .slice x y z]), (1, #[.int .i64 0, .slice none 0 0])] B N (.slice x2 y2 z2) rbw ((fun (a b : Nat) => fun p q => Qaj F (fun _ _ => false) N a b q p) a 0)) (fun i _ => N - (intOf i).toNat)
 case atStart => exact ⟨0, oW, rfl, hA⟩
 case round =>
  clear hA
  obtain ⟨a, ha, rfl, hA⟩ := hrel
  (try dsimp only at hA)
  have c0 := hA.box.cell (j := 0) rfl
  by_cases hlt : a < N
  ·go_wp2_with fail
   clear c0
   go_loopw [5] (fun i wr => ∃ b, b ≤ N ∧ i = .int .i64 ((b : Nat) : Int) ∧ MkAt w wr 2 [(0, #[.int .i64 ((N : Nat) : Int), .slice x y z]), (1, #[.int .i64 0, .slice none 0 0])] B N (.slice x2 y2 z2) rbw ((fun (a b : Nat) => fun p q => Qaj F (fun _ _ => false) N a b q p) a b)) (fun i _ => N - (intOf i).toNat)
   case atStart => exact ⟨0, oW, rfl, hA⟩
   case round =>
    clear hA
    obtain ⟨b, hb, rfl, hA⟩ := hrel
    (try dsimp only at hA)
    have c0 := hA.box.cell (j := 0) rfl
    by_cases hlt2 : b < N
    ·skip
     have c1 := hA.fst.cell (j := 1) rfl
     have d1 := hA.box.cell (j := 1) rfl
     obtain ⟨g1, cap1, e1, q1, _, _, r0, r1, _, _⟩ := (h.below hA.below).at_ hlt hlt2
     obtain ⟨g2, cap2, e2, q2, _, n2, s0, s1, fz, q3⟩ := hA.ref.at_ (p := b) (q := a) oW oW
     cases e1
     cases e2
     have hA2 := (hA.drew.put (p := b) (q := a) oW oW (F a b)).congr (G := fun p q => Qaj F (fun _ _ => false) N a (b + 1) q p) (fun p q _ _ => congrFun (congrFun (Qx F (fun _ _ => false)) p) q)
     rw [Nat.add_zero] at c1
     go_wp2_with fail
     go_region
     all_goals
      go_wp2_with fail
      refine ⟨⟨b + 1, oW, by go_num, hA2⟩, by simp [intOf]; omega⟩
    ·have e : N = b := by omega
     subst e
     rw [show (fun p q => Qaj F (fun _ _ => false) N a N q p) = (fun p q => Qaj F (fun _ _ => false) N (a + 1) 0 q p) by rw [Qdb]] at hA
     go_wp2_with fail
     refine ⟨⟨a + 1, oW, by go_num, hA⟩, by simp [intOf]; omega⟩
  ·have e : N = a := by omega
   subst e
   have hA := hA.congr (G := fun p q => F q p) (fun p q hp hq => by exact Qd6 hq hp)
   have b0 := hA.box.cell (j := 0) rfl
   have b1 := hA.box.cell (j := 1) rfl
   have hr := hA.snd
   have d0 := hr.cell (j := 0) rfl
   have d1 := hr.cell (j := 1) rfl
   have f0 := hr.frozen 0
   have f1 := hr.frozen 1
   go_wp2_with fail
   have hres := (hr.set 0 (.int .i64 (N : Int))).set 1 (.slice x2 y2 z2)
   simp only [List.setIfInBounds_toArray, List.set_cons_zero, List.set_cons_succ] at hres
   (try simp only [Exit.inBlock, Exit.then])
   refine bodyPost_ret (Qbr rfl rfl hres) rfl ?_
   obtain ⟨hA1, hB1⟩ := hA.answer (r := 1) oW
   first | exact ⟨_, rbw, rfl, hA1, hB1⟩ | exact ⟨_, rfl, ⟨rbw, hA1⟩, hB1⟩
end Go.Proofs.YtdkogbfamdnheaaGreatDoor
