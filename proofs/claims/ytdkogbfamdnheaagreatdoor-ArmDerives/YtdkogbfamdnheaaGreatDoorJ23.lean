/- The Qjn of the document's own Put. -/
import Derived.Test.YtdkogbfamdnheaaGreatDoorJ22
import Derived.Laws.ResultCell
import Derived.Test.YtdkogbfamdnheaaGreatDoorTk
import Derived.Test.YtdkogbfamdnheaaGreatDoorJ10
import Derived.Test.YtdkogbfamdnheaaGreatDoorJ09
namespace Go.Proofs.YtdkogbfamdnheaaGreatDoor
open Go.RowKit Go.Shelf Sx
set_option maxRecDepth 100000
set_option maxHeartbeats 16000000
set_option linter.unusedSimpArgs false
set_option linter.unusedVariables false
def Qmn (n : Nat) (F : Nat → Nat → Bool) (a b : Int) (v : Bool) : Nat → Nat → Bool := if inR n a && inR n b then upd F a.toNat b.toNat v else F
theorem Qwf (G F0 : Nat → Nat → Bool) {m a b : Nat} : upd (fun x y => Qam G F0 m a b y x) b a (G a b) = fun x y => Qam G F0 m a (b + 1) y x := by
 funext x y
 have := congrFun (congrFun (Qe G F0 (m := m) (a := a) (b := b)) y) x
 rw [← this]
 unfold upd
 by_cases h : x = b ∧ y = a
 ·rw [if_pos h, if_pos ⟨h.2, h.1⟩]
 ·rw [if_neg h, if_neg (fun k => h ⟨k.2, k.1⟩)]
theorem Qft {G F0 : Nat → Nat → Bool} {m k x y : Nat} (hx : x < k) (hy : y < m) : Qam G F0 m k 0 x y = G x y := by
 unfold Qam
 rw [if_pos (Or.inl ⟨hx, hy⟩)]
def Qad (n : Nat) (F : Nat → Nat → Bool) : Nat → Nat → Bool := fun p q => decide (p < n) && (decide (q < n) && F p q)
theorem Qho (n : Nat) (F : Nat → Nat → Bool) (p q : Nat) : Qam F (fun _ _ => false) n n 0 p q = Qad n F p q := by
 unfold Qam Qad
 by_cases h1 : p < n
 ·by_cases h2 : q < n
  ·rw [if_pos (by omega)]; simp [h1, h2]
  ·rw [if_neg (by omega)]; simp [h2]
 ·rw [if_neg (by omega)]; simp [h1]
theorem Qwg (n m : Nat) (F G : Nat → Nat → Bool) (p q : Nat) : Qam (fun p q => Qad n F p q || G p q) (Qad n F) m m 0 p q = (Qad n F p q || Qad m G p q) := by
 unfold Qam
 by_cases h1 : p < m
 ·by_cases h2 : q < m
  ·rw [if_pos (by omega)]
   have : Qad m G p q = G p q := by unfold Qad; simp [h1, h2]
   rw [this]
  ·rw [if_neg (by omega)]
   have : Qad m G p q = false := by unfold Qad; simp [h2]
   rw [this, Bool.or_false]
 ·rw [if_neg (by omega)]
  have : Qad m G p q = false := by unfold Qad; simp [h1]
  rw [this, Bool.or_false]
theorem Qrp (n : Nat) (F : Nat → Nat → Bool) (p q : Nat) : Qjs n F ((p : Nat) : Int) ((q : Nat) : Int) = Qad n F p q := by
 unfold Qjs Qad inR
 rw [Int.toNat_natCast, Int.toNat_natCast]
 congr 1
 ·simp
 ·congr 1
  simp
theorem Qg6 {G F0 : Nat → Nat → Bool} {m a b : Nat} {v : Bool} (h : G a b = v) : upd (Qam G F0 m a b) a b v = Qam G F0 m a (b + 1) := by
 rw [← h]
 exact Qe G F0
theorem Qoi (lo lo2 n m N : Nat) (hn : n ≤ 256) (hm : m ≤ 256) (HN : Hid (N = max n m)) (x : Option Addr) (y z : Nat) (rb : Nat → Nat) (F : Nat → Nat → Bool) (x1 : Option Addr) (y1 z1 : Nat) (rb1 : Nat → Nat) (G : Nat → Nat → Bool) (w : World) (h : RefM lo w (.slice x y z) n n rb F) (h1 : RefM lo2 w (.slice x1 y1 z1) m m rb1 G) :
  Calls Tryz.prog 53 #[.agg #[.int .i64 ((n : Nat) : Int), .slice x y z], .agg #[.int .i64 ((m : Nat) : Int), .slice x1 y1 z1]] w fun e w' => ∃ M rb', e = .returned (.agg #[.int .i64 ((N : Nat) : Int), M]) ∧ RefM w.heap.size w' M N N rb' (fun p q => Qad n F p q && !Qad m G p q) ∧ Below w.heap.size w w' := by
 have hN : N ≤ 256 := by have := HN.out; omega
 have hnN : n ≤ N := by have := HN.out; omega
 have hmN : m ≤ N := by have := HN.out; omega
 go_enter Tryz.func53, Tryz.ntmps53
 go_wp2_with fail
 refine (Qfr lo n hn x y z rb F m N hm HN _ (((h.alloc _).alloc _).alloc _)).mono ?_
 rintro e w1 ⟨M, rbw, rfl, hRM, hB1⟩
 obtain ⟨x2, y2, z2, rfl⟩ := hRM.slice
 have hA : MkAt w (w1.alloc (.cells #[.int .i64 ((N : Nat) : Int), .slice x2 y2 z2] 51)) 3 [(0, #[.int .i64 ((n : Nat) : Int), .slice x y z]), (1, #[.int .i64 ((m : Nat) : Int), .slice x1 y1 z1]), (2, #[.int .i64 0, .slice none 0 0])] w1.heap.size N (.slice x2 y2 z2) rbw (Qam (fun p q => Qad n F p q && !Qad m G p q) (Qad n F) N 0 0) := by
  refine MkAt.begin ((((Below.refl _ w).alloc (Nat.le_refl _) _).alloc (by simp) _).alloc (by simp; omega) _) (by simp) ?_ (hRM.congr fun p q hp hq => ?_) hB1
  ·intro x hx
   simp only [List.mem_cons, List.not_mem_nil, or_false] at hx
   rcases hx with rfl | rfl | rfl
   ·exact ⟨by omega, ((Blk.new w _ _).alloc _).alloc _⟩
   ·exact ⟨by omega, (Blk.new2 w _ _ _).alloc _⟩
   ·exact ⟨by omega, Blk.new3 w _ _ _ _⟩
  ·rw [Qc6, Qho]
 clear hRM hB1
 go_wp2_with fail
 generalize w1.heap.size = B at *
 go_loopw [6] (fun i wr => ∃ a, a ≤ N ∧ i = .int .i64 ((a : Nat) : Int) ∧ MkAt w wr 3 [(0, #[.int .i64 ((n : Nat) : Int), .slice x y z]), (1, #[.int .i64 ((m : Nat) : Int), .slice x1 y1 z1]), (2, #[.int .i64 0, .slice none 0 0])] B N (.slice x2 y2 z2) rbw (Qam (fun p q => Qad n F p q && !Qad m G p q) (Qad n F) N a 0)) (fun i _ => N - (intOf i).toNat)
 case atStart => exact ⟨0, by omega, rfl, hA⟩
 case round =>
  clear hA
  obtain ⟨a, ha, rfl, hA⟩ := hrel
  (try dsimp only at hA)
  have c0 := hA.box.cell (j := 0) rfl
  by_cases hlt : a < N
  ·go_wp2_with fail
   clear c0
   go_loopw [7] (fun i wr => ∃ b, b ≤ N ∧ i = .int .i64 ((b : Nat) : Int) ∧ MkAt w wr 3 [(0, #[.int .i64 ((n : Nat) : Int), .slice x y z]), (1, #[.int .i64 ((m : Nat) : Int), .slice x1 y1 z1]), (2, #[.int .i64 0, .slice none 0 0])] B N (.slice x2 y2 z2) rbw (Qam (fun p q => Qad n F p q && !Qad m G p q) (Qad n F) N a b)) (fun i _ => N - (intOf i).toNat)
   case atStart => exact ⟨0, by omega, rfl, hA⟩
   case round =>
    clear hA
    obtain ⟨b, hb, rfl, hA⟩ := hrel
    (try dsimp only at hA)
    have c0 := hA.box.cell (j := 0) rfl
    by_cases hlt2 : b < N
    ·skip
     have d1 := hA.box.cell (j := 1) rfl
     have c2 := hA.snd.cell (j := 1) rfl
     obtain ⟨g2, cap2, e2, q2, _, n2, s0, s1, fz, q3⟩ := hA.ref.at_ (p := a) (q := b) (by omega) (by omega)
     cases e2
     rw [Qjr] at s1
     have haN : a < N := by omega
     have hbN : b < N := by omega
     cases hv : Qad n F a b
     ·rw [hv] at s1
      have hA2 := (hA.drew.put (p := a) (q := b) (by omega) (by omega) false).congr (G := Qam (fun p q => Qad n F p q && !Qad m G p q) (Qad n F) N a (b + 1)) (fun p q _ _ => congrFun (congrFun (Qg6 (G := fun p q => Qad n F p q && !Qad m G p q) (by rw [hv, Bool.false_and])) p) q)
      go_wp2_with fail
      go_region
      all_goals
       go_wp2_with fail
       refine ⟨⟨b + 1, by omega, by go_num, hA2⟩, by simp [intOf]; omega⟩
     ·rw [hv] at s1
      go_wp2_with fail
      have k0 := hA.snd.cell (j := 0) rfl
      have k1 := hA.snd.cell (j := 1) rfl
      have A0 : (0 : Int) ≤ ((a : Nat) : Int) := by omega
      have A1 : ((a : Nat) : Int) < ((N : Nat) : Int) := by omega
      have B0 : (0 : Int) ≤ ((b : Nat) : Int) := by omega
      have B1 : ((b : Nat) : Int) < ((N : Nat) : Int) := by omega
      have hAd := hA.drew
      have s1' : wr.drew.cell? ⟨rbw a, b, none⟩ = some (.bool true) := s1
      refine wp_region_held_drew (S := fun W => W.cell? ⟨B, 1, none⟩ = some (.slice (some ⟨g2, 0, none⟩) N z2) ∧ W.cell? ⟨g2, a, none⟩ = some (hdr N (rbw a)) ∧ W.cell? ⟨w.heap.size + 1, 0, none⟩ = some (.int .i64 ((m : Nat) : Int)) ∧ W.cell? ⟨w.heap.size + 1, 1, none⟩ = some (.slice x1 y1 z1)) (by kernel_rfl) ⟨d1, s0, k0, k1⟩ (fun hHeld => ?_)
      clear hA s0 s1 d1 k0 k1 c0 c2 fz
      generalize wr.drew = W1 at *
      refine tk 0 rfl ?_; simp only [zz]
      refine tk 1 rfl ?_; simp only [zz]
      refine tk 2 rfl ?_; simp only [zz]
      refine tk 3 rfl ?_; simp only [zz]
      refine tk 4 rfl ?_; simp only [zz]
      refine tk 5 rfl ?_; simp only [zz]
      refine tk 6 rfl ?_; simp only [zz]
      refine tk 7 rfl ?_; simp only [zz]
      refine tk 8 rfl ?_; simp only [zz]
      refine tk 9 rfl ?_; simp only [zz]
      refine tk 10 rfl ?_; simp only [zz]
      refine tk 11 rfl ?_; simp only [zz]
      refine tk 12 rfl ?_; simp only [zz]
      refine wpAnyH_ready (rs := [13]) (by kernel_rfl) (by simp) ?_
      refine rdy rfl (fun K hK => ?_) AllReadyH.nil
      simp only [zw]
      go_simp
      refine hK.out _ _ hHeld (fun hHeld => ?_)
      clear hK K s1'
      try simp only [zz]
      refine tk 14 rfl ?_; simp only [zz]
      refine tk 15 rfl ?_; simp only [zz]
      refine tk 16 rfl ?_; simp only [zz]
      refine tk 17 rfl ?_; simp only [zz]
      refine wpAnyH_ready (rs := [18]) (by kernel_rfl) (by simp) ?_
      refine rdy rfl (fun K hK => ?_) AllReadyH.nil
      simp only [zw]
      go_simp
      refine (Qkj lo2 m x1 y1 z1 rb1 G _ _ _ (h1.below hAd.below)).mono ?_
      rintro e w5 ⟨rfl, hB5⟩
      have hA5 := hAd.step hB5
      rw [Qrp]
      have hA6 := hA5.put (p := a) (q := b) haN hbN (!Qad m G a b)
      obtain ⟨_, _, e3, _, _, _, s3, s2, fz, _⟩ := hA5.ref.at_ (p := a) (q := b) haN hbN
      cases e3
      refine hK.out _ _ ⟨hA5.box.cell rfl, s3, hA5.snd.cell rfl, hA5.snd.cell rfl⟩ (fun hHeld => ?_)
      clear hK K hAd hB5 s3
      try simp only [zz]
      refine tk 19 rfl ?_; simp only [zz]
      refine tk 20 rfl ?_; simp only [zz]
      refine tk 21 rfl ?_; simp only [zz]
      refine wpAnyH_ready (rs := [22]) (by kernel_rfl) (by simp) ?_
      refine rdy rfl (fun K hK => ?_) AllReadyH.nil
      simp only [zw]
      go_simp
      obtain ⟨_, _, e3, _, _, _, s3, _, _, _⟩ := hA6.ref.at_ (p := a) (q := b) haN hbN
      cases e3
      refine hK.out _ _ ⟨hA6.box.cell rfl, s3, hA6.snd.cell rfl, hA6.snd.cell rfl⟩ (fun hHeld => ?_)
      clear hK K hHeld s3
      refine wpAnyH_done (by kernel_rfl) ?_ _
      try simp only [zz]
      have hA7 := hA6.congr (G := Qam (fun p q => Qad n F p q && !Qad m G p q) (Qad n F) N a (b + 1)) (fun p q _ _ => congrFun (congrFun (Qg6 (G := fun p q => Qad n F p q && !Qad m G p q) (by rw [hv, Bool.true_and])) p) q)
      clear hA6 s2 fz
      go_wp2_with fail
      refine ⟨⟨b + 1, by omega, by go_num, hA7⟩, by simp [intOf]; omega⟩
    ·have e : N = b := by omega
     subst e
     rw [Qdn] at hA
     go_wp2_with fail
     refine ⟨⟨a + 1, by omega, by go_num, hA⟩, by simp [intOf]; omega⟩
  ·have e : N = a := by omega
   subst e
   have hA := hA.congr (G := fun p q => Qad n F p q && !Qad m G p q) (fun p q hp hq => by exact Qft hp hq)
   have b0 := hA.box.cell (j := 0) rfl
   have b1 := hA.box.cell (j := 1) rfl
   have hr := hA.trd
   have d0 := hr.cell (j := 0) rfl
   have d1 := hr.cell (j := 1) rfl
   have f0 := hr.frozen 0
   have f1 := hr.frozen 1
   go_wp2_with fail
   have hres := (hr.set 0 (.int .i64 ((N : Nat) : Int))).set 1 (.slice x2 y2 z2)
   simp only [List.setIfInBounds_toArray, List.set_cons_zero, List.set_cons_succ] at hres
   (try simp only [Exit.inBlock, Exit.then])
   refine bodyPost_ret (Qbq rfl rfl hres) rfl ?_
   obtain ⟨hA1, hB1⟩ := hA.answer (r := 2) (by omega)
   first | exact ⟨_, rbw, rfl, hA1, hB1⟩ | exact ⟨_, rfl, ⟨rbw, hA1⟩, hB1⟩
def Qdj (X Y : Nat → Nat → Bool) : Nat → Nat → Nat → Bool
 | 0 => fun _ _ => false
 | q + 1 => fun p s => Qdj X Y q p s || (X p q && Y q s)
theorem Qkm (X Y : Nat → Nat → Bool) (q p s : Nat) : Qdj X Y (q + 1) p s = (Qdj X Y q p s || (X p q && Y q s)) := rfl
def Qcj (X Y : Nat → Nat → Bool) (N p q : Nat) : Nat → Nat → Bool := fun x y => if x < p then Qdj X Y N x y else if x = p then Qdj X Y q x y else false
theorem Qwh (X Y : Nat → Nat → Bool) (N x y : Nat) : Qcj X Y N 0 0 x y = false := by
 unfold Qcj
 rw [if_neg (by omega)]
 split <;> rfl
theorem Qtl (X Y : Nat → Nat → Bool) (N p q : Nat) (h : X p q = false) (x y : Nat) : Qcj X Y N p q x y = Qcj X Y N p (q + 1) x y := by
 unfold Qcj
 by_cases h1 : x < p
 ·rw [if_pos h1, if_pos h1]
 ·rw [if_neg h1, if_neg h1]
  by_cases h2 : x = p
  ·subst h2
   rw [if_pos rfl, if_pos rfl, Qkm, h]
   simp
  ·rw [if_neg h2, if_neg h2]
theorem Qwi (X Y : Nat → Nat → Bool) (N p x y : Nat) : Qcj X Y N p N x y = Qcj X Y N (p + 1) 0 x y := by
 unfold Qcj
 by_cases h1 : x < p
 ·rw [if_pos h1, if_pos (by omega)]
 ·rw [if_neg h1]
  by_cases h2 : x = p
  ·subst h2
   rw [if_pos rfl, if_pos (by omega)]
  ·rw [if_neg h2, if_neg (by omega)]
   split <;> rfl
theorem Qrq (X Y : Nat → Nat → Bool) (N p q x y : Nat) (hy : y < N) : Qam (Qdj X Y (q + 1)) (Qcj X Y N p q) 0 p N x y = Qcj X Y N p (q + 1) x y := by
 unfold Qam Qcj
 by_cases h1 : x < p
 ·rw [if_neg (by omega), if_pos h1, if_pos h1]
 ·by_cases h2 : x = p
  ·subst h2
   rw [if_pos (by omega), if_neg h1, if_pos rfl]
  ·rw [if_neg (by omega), if_neg h1, if_neg h1, if_neg h2, if_neg h2]
theorem Qwj (X Y : Nat → Nat → Bool) (N p q s : Nat) : Qcj X Y N p q p s = Qdj X Y q p s := by
 unfold Qcj
 rw [if_neg (by omega), if_pos rfl]
structure CompB (w W : World) (bx bY N : Nat) (M1 M2 : Value) (r1 r2 : Nat → Nat) (X Y : Nat → Nat → Bool) : Prop where
 below : Below w.heap.size w W
 res : Blk W (w.heap.size + 2) 51 #[.int .i64 0, .slice none 0 0]
 hx : Blk W bx 51 #[.int .i64 ((N : Nat) : Int), M1]
 hy : Blk W bY 51 #[.int .i64 ((N : Nat) : Int), M2]
 rx : RefM 0 W M1 N N r1 X
 ry : RefM 0 W M2 N N r2 Y
theorem CompB.step {w W W' : World} {bx bY N : Nat} {M1 M2 : Value} {r1 r2 : Nat → Nat} {X Y : Nat → Nat → Bool} (h : CompB w W bx bY N M1 M2 r1 r2 X Y) (hB : Below W.heap.size W W') : CompB w W' bx bY N M1 M2 r1 r2 X Y :=
 ⟨Qaa h.below h.below.size hB, h.res.of_below hB, h.hx.of_below hB, h.hy.of_below hB, h.rx.below hB, h.ry.below hB⟩
theorem Qj9 (lo lo2 n m N : Nat) (hn : n ≤ 256) (hm : m ≤ 256) (HN : Hid (N = max n m)) (x : Option Addr) (y z : Nat) (rb : Nat → Nat) (F : Nat → Nat → Bool) (x1 : Option Addr) (y1 z1 : Nat) (rb1 : Nat → Nat) (G : Nat → Nat → Bool) (w : World) (h : RefM lo w (.slice x y z) n n rb F) (h1 : RefM lo2 w (.slice x1 y1 z1) m m rb1 G) :
  Calls Tryz.prog 64 #[.agg #[.int .i64 ((n : Nat) : Int), .slice x y z], .agg #[.int .i64 ((m : Nat) : Int), .slice x1 y1 z1]] w fun e w' => ∃ M rb', e = .returned (.agg #[.int .i64 ((N : Nat) : Int), M]) ∧ RefM w.heap.size w' M N N rb' (Qdj (Qad n F) (Qad m G) N) ∧ Below w.heap.size w w' := by
 have hN : N ≤ 256 := by have := HN.out; omega
 have HN2 : Hid (N = max m n) := by show _ = _; have := HN.out; omega
 have hW0 : Below w.heap.size w (((w.alloc (.cells #[.int .i64 ((n : Nat) : Int), .slice x y z] 51)).alloc (.cells #[.int .i64 ((m : Nat) : Int), .slice x1 y1 z1] 51)).alloc (.cells #[.int .i64 0, .slice none 0 0] 51)) := (((Below.refl _ w).alloc (Nat.le_refl _) _).alloc (by simp) _).alloc (by simp; omega) _
 go_enter Tryz.func64, Tryz.ntmps64
 go_wp2_with fail
 refine (Qfr lo n hn x y z rb F m N hm HN _ (((h.alloc _).alloc _).alloc _)).mono ?_
 rintro e w1 ⟨M1, r1, rfl, hR1, hB1⟩
 obtain ⟨x2, y2, z2, rfl⟩ := hR1.slice
 have ba := (((((Blk.new w 51 #[.int .i64 ((n : Nat) : Int), .slice x y z]).alloc (.cells #[.int .i64 ((m : Nat) : Int), .slice x1 y1 z1] 51)).alloc (.cells #[.int .i64 0, .slice none 0 0] 51)).of_below hB1).alloc (.cells #[.int .i64 ((N : Nat) : Int), .slice x2 y2 z2] 51))
 have bb := ((((Blk.new2 w (.cells #[.int .i64 ((n : Nat) : Int), .slice x y z] 51) 51 #[.int .i64 ((m : Nat) : Int), .slice x1 y1 z1]).alloc (.cells #[.int .i64 0, .slice none 0 0] 51)).of_below hB1).alloc (.cells #[.int .i64 ((N : Nat) : Int), .slice x2 y2 z2] 51))
 have br := ((Blk.new3 w (.cells #[.int .i64 ((n : Nat) : Int), .slice x y z] 51) (.cells #[.int .i64 ((m : Nat) : Int), .slice x1 y1 z1] 51) 51 #[.int .i64 0, .slice none 0 0]).of_below hB1).alloc (.cells #[.int .i64 ((N : Nat) : Int), .slice x2 y2 z2] 51)
 have bx := Blk.new w1 51 #[.int .i64 ((N : Nat) : Int), .slice x2 y2 z2]
 have hW1 := Qaa hW0 hW0.size hB1
 have hW1a := hW1.alloc hW1.size (.cells #[.int .i64 ((N : Nat) : Int), .slice x2 y2 z2] 51)
 have rX := ((hR1.congr (G := Qad n F) (fun p q _ _ => Qho n F p q)).mono (Nat.zero_le _)).alloc (.cells #[.int .i64 ((N : Nat) : Int), .slice x2 y2 z2] 51)
 have h1a := h1.below hW1a
 clear hR1 hB1 hW0 hW1
 have a0 := ba.cell (j := 0) rfl
 have b0 := bb.cell (j := 0) rfl
 have b1 := bb.cell (j := 1) rfl
 go_wp2_with fail
 generalize hw1a : w1.alloc (.cells #[.int .i64 ((N : Nat) : Int), .slice x2 y2 z2] 51) = W1 at *
 generalize w1.heap.size = BX at *
 refine (Qfr lo2 m hm x1 y1 z1 rb1 G n N hn HN2 _ h1a).mono ?_
 rintro e w2 ⟨M2, r2, rfl, hR2, hB2⟩
 obtain ⟨x3, y3, z3, rfl⟩ := hR2.slice
 have hW2 := Qaa hW1a hW1a.size hB2
 have hC : CompB w (w2.alloc (.cells #[.int .i64 ((N : Nat) : Int), .slice x3 y3 z3] 51)) BX w2.heap.size N (.slice x2 y2 z2) (.slice x3 y3 z3) r1 r2 (Qad n F) (Qad m G) :=
  ⟨hW2.alloc hW2.size _, (br.of_below hB2).alloc _, (bx.of_below hB2).alloc _, Blk.new _ _ _, (rX.below hB2).alloc _, ((hR2.congr (G := Qad m G) (fun p q _ _ => Qho m G p q)).mono (Nat.zero_le _)).alloc _⟩
 clear ba bb br bx hW1a rX h1a hR2 hB2 hW2 a0 b0 b1 h h1
 have a0 := hC.hx.cell (j := 0) rfl
 go_wp2_with fail
 generalize w2.alloc (.cells #[.int .i64 ((N : Nat) : Int), .slice x3 y3 z3] 51) = w3 at *
 generalize w2.heap.size = BY at *
 clear a0
 refine (Qc7 N hN _).mono ?_
 rintro e w4 ⟨M, rbw, rfl, hRM, hB4⟩
 obtain ⟨x4, y4, z4, rfl⟩ := hRM.slice
 have hA : MkAt w3 (w4.alloc (.cells #[.int .i64 ((N : Nat) : Int), .slice x4 y4 z4] 51)) 0 [] w4.heap.size N (.slice x4 y4 z4) rbw (Qcj (Qad n F) (Qad m G) N 0 0) :=
  MkAt.begin (Below.refl _ _) (by simp) (fun x hx => by cases hx) (hRM.congr fun p q hp hq => (Qwh _ _ N p q).symm) hB4
 clear hRM hB4
 go_wp2_with fail
 generalize w4.heap.size = B at *
 go_loopw [8] (fun i wr => ∃ p, p ≤ N ∧ i = .int .i64 ((p : Nat) : Int) ∧ MkAt w3 wr 0 [] B N (.slice x4 y4 z4) rbw (Qcj (Qad n F) (Qad m G) N p 0)) (fun i _ => N - (intOf i).toNat)
 case atStart => exact ⟨0, by omega, rfl, hA⟩
 case round =>
  clear hA
  obtain ⟨p, hp, rfl, hA⟩ := hrel
  have c0 := hA.box.cell (j := 0) rfl
  by_cases hlt : p < N
  ·go_wp2_with fail
   clear c0
   go_loopw [9] (fun i wr => ∃ q, q ≤ N ∧ i = .int .i64 ((q : Nat) : Int) ∧ MkAt w3 wr 0 [] B N (.slice x4 y4 z4) rbw (Qcj (Qad n F) (Qad m G) N p q)) (fun i _ => N - (intOf i).toNat)
   case atStart => exact ⟨0, by omega, rfl, hA⟩
   case round =>
    clear hA
    obtain ⟨q, hq, rfl, hA⟩ := hrel
    have c0 := hA.box.cell (j := 0) rfl
    by_cases hlt2 : q < N
    ·cases hv : Qad n F p q
     ·have hA2 := hA.congr (fun x y _ _ => Qtl (Qad n F) (Qad m G) N p q hv x y)
      have Hv : Hid (Qad n F p q = false) := hv
      clear hA hv
      go_wp2_with fail
      clear c0
      go_loopw [10] (fun i wr => i = .int .i64 0 ∧ MkAt w3 wr 0 [] B N (.slice x4 y4 z4) rbw (Qcj (Qad n F) (Qad m G) N p (q + 1))) (fun _ _ => 0)
      case atStart => exact ⟨rfl, hA2⟩
      case round =>
       clear hA2
       obtain ⟨rfl, hA⟩ := hrel
       have hC2 := hC.step hA.below
       have d1 := hC2.hx.cell (j := 1) rfl
       obtain ⟨g2, cap2, e2, _, _, _, s0, s1, _, _⟩ := hC2.rx.at_ (p := p) (q := q) hlt hlt2
       cases e2
       rw [Hv.out] at s1
       go_wp2_with fail
       refine ⟨⟨q + 1, by omega, by go_num, hA⟩, by simp [intOf]; omega⟩
     ·have Hv : Hid (Qad n F p q = true) := hv
      have hA2 : MkAt w3 _ 0 [] B N (.slice x4 y4 z4) rbw (Qam (Qdj (Qad n F) (Qad m G) (q + 1)) (Qcj (Qad n F) (Qad m G) N p q) 0 p 0) := hA.congr (fun x y _ _ => by unfold Qam; rw [if_neg (by omega)])
      clear hv hA
      go_wp2_with fail
      clear c0
      go_loopw [10] (fun i wr => ∃ s, s ≤ N ∧ i = .int .i64 ((s : Nat) : Int) ∧ MkAt w3 wr 0 [] B N (.slice x4 y4 z4) rbw (Qam (Qdj (Qad n F) (Qad m G) (q + 1)) (Qcj (Qad n F) (Qad m G) N p q) 0 p s)) (fun i _ => N - (intOf i).toNat)
      case atStart => exact ⟨0, by omega, rfl, hA2⟩
      case round =>
       clear hA2
       obtain ⟨s, hs, rfl, hA⟩ := hrel
       have hC2 := hC.step hA.below
       have c0 := hA.box.cell (j := 0) rfl
       have d1 := hC2.hx.cell (j := 1) rfl
       obtain ⟨g2, cap2, e2, _, _, _, s0, s1, _, _⟩ := hC2.rx.at_ (p := p) (q := q) hlt hlt2
       rw [Hv.out] at s1
       by_cases hlt3 : s < N
       ·have k1 := hC2.hy.cell (j := 1) rfl
        have m1 := hA.box.cell (j := 1) rfl
        obtain ⟨g3, cap3, e3, _, _, _, t0, t1, _, _⟩ := hC2.ry.at_ (p := q) (q := s) hlt2 hlt3
        obtain ⟨g4, cap4, e4, _, _, n4, u0, u1, fz, _⟩ := hA.ref.at_ (p := p) (q := s) hlt hlt3
        cases e2
        cases e3
        cases e4
        rw [Qjr, Qwj] at u1
        have hval : Qdj (Qad n F) (Qad m G) (q + 1) p s = (Qdj (Qad n F) (Qad m G) q p s || Qad m G q s) := by rw [Qkm, Hv.out, Bool.true_and]
        have hA2 := hA.drew.put (p := p) (q := s) hlt hlt3 (Qdj (Qad n F) (Qad m G) q p s || Qad m G q s)
        rw [← hval, Qe] at hA2
        cases hu : Qdj (Qad n F) (Qad m G) q p s
        ·rw [hval, hu, Bool.false_or] at hA2
         rw [hu] at u1
         clear hval hu
         go_wp2_with fail
         go_region
         all_goals
          go_wp2_with fail
          refine ⟨⟨s + 1, by omega, by go_num, hA2⟩, by simp [intOf]; omega⟩
        ·rw [hval, hu, Bool.true_or] at hA2
         rw [hu] at u1
         clear hval hu
         go_wp2_with fail
         go_region
         all_goals
          go_wp2_with fail
          refine ⟨⟨s + 1, by omega, by go_num, hA2⟩, by simp [intOf]; omega⟩
       ·have e : N = s := by omega
        subst e
        cases e2
        have hA2 := hA.congr (fun x y _ hy => Qrq (Qad n F) (Qad m G) N p q x y hy)
        go_wp2_with fail
        refine ⟨⟨q + 1, by omega, by go_num, hA2⟩, by simp [intOf]; omega⟩
    ·have e : N = q := by omega
     subst e
     have hA2 := hA.congr (fun x y _ _ => Qwi (Qad n F) (Qad m G) N p x y)
     go_wp2_with fail
     refine ⟨⟨p + 1, by omega, by go_num, hA2⟩, by simp [intOf]; omega⟩
  ·have e : N = p := by omega
   subst e
   have hA := hA.congr (G := Qdj (Qad n F) (Qad m G) N) (fun x y hx _ => by unfold Qcj; rw [if_pos hx])
   have hC2 := hC.step hA.below
   have b1 := hA.box.cell (j := 1) rfl
   have hr := hC2.res
   have d0 := hr.cell (j := 0) rfl
   have d1 := hr.cell (j := 1) rfl
   have f0 := hr.frozen 0
   have f1 := hr.frozen 1
   go_wp2_with fail
   have hres := (hr.set 0 (.int .i64 ((N : Nat) : Int))).set 1 (.slice x4 y4 z4)
   simp only [List.setIfInBounds_toArray, List.set_cons_zero, List.set_cons_succ] at hres
   (try simp only [Exit.inBlock, Exit.then])
   refine bodyPost_ret (Qbq rfl rfl hres) rfl ?_
   have hl := hC.res.lt
   have hA1 : RefM w.heap.size ((_ : World).setCell ⟨w.heap.size + 2, 0, none⟩ (.int .i64 ((N : Nat) : Int)) |>.setCell ⟨w.heap.size + 2, 1, none⟩ (.slice x4 y4 z4)) (.slice x4 y4 z4) N N rbw (Qdj (Qad n F) (Qad m G) N) := RefM.mono (hA.ref.below' fun g hg _ => by rw [Below.heap_setCell _ _ _ _ (by simp; omega), Below.heap_setCell _ _ _ _ (by simp; omega)]) (by omega)
   have hB1 := (hC2.below.setCell (p := ⟨w.heap.size + 2, 0, none⟩) (by simp) (.int .i64 ((N : Nat) : Int))).setCell (p := ⟨w.heap.size + 2, 1, none⟩) (by simp) (.slice x4 y4 z4)
   first | exact ⟨_, rbw, rfl, hA1, hB1⟩ | exact ⟨_, rfl, ⟨rbw, hA1⟩, hB1⟩
def Qgo (F : Nat → Nat → Bool) (p q : Nat) : List (Nat × Nat) := ((List.range q).filter (F p)).map (fun y => (p, y))
def Qda (n : Nat) (F : Nat → Nat → Bool) (p q : Nat) : List (Nat × Nat) := (List.range p).flatMap (fun x => Qgo F x n) ++ Qgo F p q
theorem Qlw (F : Nat → Nat → Bool) (p q : Nat) : Qgo F p (q + 1) = Qgo F p q ++ (if F p q then [(p, q)] else []) := by
 unfold Qgo
 rw [List.range_succ, List.filter_append, List.map_append]
 congr 1
 cases h : F p q <;> simp [h]
theorem QAo {n : Nat} {F : Nat → Nat → Bool} {p q : Nat} (h : F p q = true) : Qda n F p (q + 1) = Qda n F p q ++ [(p, q)] := by
 unfold Qda
 rw [Qlw, h, if_pos rfl, List.append_assoc]
theorem QC1 {n : Nat} {F : Nat → Nat → Bool} {p q : Nat} (h : F p q = false) : Qda n F p (q + 1) = Qda n F p q := by
 unfold Qda
 rw [Qlw, h]
 simp
theorem Qym (n : Nat) (F : Nat → Nat → Bool) (p : Nat) : Qda n F p n = Qda n F (p + 1) 0 := by
 unfold Qda
 rw [List.range_succ, List.flatMap_append]
 simp [Qgo]
structure PrAt (w W : World) (n : Nat) (A v : Value) (l : List (Nat × Nat)) : Prop where
 below : Below w.heap.size w W
 box : Blk W w.heap.size 51 #[.int .i64 ((n : Nat) : Int), A]
 own : W.ownsRow (w.heap.size + 1) 30 2 v l.length (Qcy l)
theorem PrAt.more {w W W' : World} {n : Nat} {A v v' : Value} {l : List (Nat × Nat)} {a b : Nat} (h : PrAt w W n A v l)
  (hown : W'.ownsRow (w.heap.size + 1) 30 2 v' (l.length + 1) (Qcy l ++ [.int .i64 ((a : Nat) : Int), .int .i64 ((b : Nat) : Int)]))
  (hg : (W.alloc (.cells #[.int .i64 ((a : Nat) : Int), .int .i64 ((b : Nat) : Int)] 30)).grownBy W' v.ownBlock) : PrAt w W' n A v' (l ++ [(a, b)]) := by
 have hlt := h.box.lt
 refine ⟨(h.below.alloc h.below.size _).grown hg (by simp; omega) (fun k e => by have := (h.own.lt k e).1; omega), ?_, ?_⟩
 ·exact (hg.block _ (by simp; omega) (fun e => by have := (h.own.lt _ e.symm).1; omega)).trans (h.box.alloc _)
 ·rw [Qnt, List.length_append]
  exact hown
theorem Qwk {w : World} {base base' : Nat} {e : TypeId} {size : Nat} {v : Value} {n : Nat} {xs : List Value} (h : w.ownsRow base e size v n xs) (hb : base' ≤ base) : w.ownsRow base' e size v n xs := by
 refine ⟨h.1, ?_⟩
 rcases h.2 with h2 | ⟨g, cap, cur, e1, e2, e3⟩
 ·exact .inl h2
 ·exact .inr ⟨g, cap, cur, e1, Nat.le_trans hb e2, e3⟩
theorem Qoj (lo n : Nat) (hn : n ≤ 256) (x : Option Addr) (y z : Nat) (rb : Nat → Nat) (F : Nat → Nat → Bool) (w : World) (h : RefM lo w (.slice x y z) n n rb F) :
  Calls Tryz.prog 108 #[.agg #[.int .i64 ((n : Nat) : Int), .slice x y z]] w fun e w' => ∃ v, e = .returned v ∧ w'.ownsRow w.heap.size 30 2 v (Qda n F n 0).length (Qcy (Qda n F n 0)) ∧ Below w.heap.size w w' := by
 obtain ⟨i0, hi, hz0, hz1, hz2⟩ := info_parts Tryz.infopair
 have hA : PrAt w (w.alloc (.cells #[.int .i64 ((n : Nat) : Int), .slice x y z] 51)) n (.slice x y z) (.slice none 0 0) [] :=
  ⟨(Below.refl _ _).alloc (Nat.le_refl _) _, Blk.new _ _ _, World.ownsRow_nil _ _ _ _⟩
 go_enter Tryz.func108, Tryz.ntmps108
 go_wp2_with fail
 go_loopw [3, 4] (fun v i wr => ∃ p l, p ≤ n ∧ i = .int .i64 ((p : Nat) : Int) ∧ PrAt w wr n (.slice x y z) v l ∧ Hid (l = Qda n F p 0) ∧ l.length ≤ p * 256) (fun _ i _ => n - (intOf i).toNat)
 case atStart => exact ⟨0, [], by omega, rfl, hA, rfl, by simp⟩
 case round =>
  clear hA
  obtain ⟨p, l, hp, rfl, hA, HL, hlen⟩ := hrel
  have c0 := hA.box.cell (j := 0) rfl
  by_cases hlt : p < n
  ·go_wp2_with fail
   clear c0
   go_loopw [3, 5] (fun v i wr => ∃ q l, q ≤ n ∧ i = .int .i64 ((q : Nat) : Int) ∧ PrAt w wr n (.slice x y z) v l ∧ Hid (l = Qda n F p q) ∧ l.length ≤ p * 256 + q) (fun _ i _ => n - (intOf i).toNat)
   case atStart => exact ⟨0, l, by omega, rfl, hA, HL, by omega⟩
   case round =>
    clear hA HL hlen
    obtain ⟨q, l, hq, rfl, hA, HL, hlen⟩ := hrel
    have c0 := hA.box.cell (j := 0) rfl
    by_cases hlt2 : q < n
    ·have c1 := hA.box.cell (j := 1) rfl
     obtain ⟨g, cap, e, _, _, _, d0, d1, _, _⟩ := (h.below hA.below).at_ hlt hlt2
     cases e
     cases hf : F p q
     ·rw [hf] at d1
      have HL2 : Hid (l = Qda n F p (q + 1)) := by show _ = _; rw [QC1 hf]; exact HL.out
      clear hf
      go_wp2_with fail
      refine ⟨⟨q + 1, l, by omega, by go_num, hA, HL2, by omega⟩, by simp [intOf]; omega⟩
     ·rw [hf] at d1
      have HL2 : Hid (l ++ [(p, q)] = Qda n F p (q + 1)) := by show _ = _; rw [QAo hf, ← HL.out]
      clear hf
      have hlt4 := hA.box.lt
      go_wp2_with (at_builtin; refine wpList_append_own_at _ rfl _ _ 24 rfl (w.heap.size + 1) 30 i0 (.agg #[.int .i64 0, .int .i64 0]) 2 16 Tryz.underlying24 hi hz0 hz1 hz2 rfl (by decide) _ _ _ rfl (hA.own.alloc _) ⟨_, 0, none⟩ 1 1 [.int .i64 ((p : Nat) : Int), .int .i64 ((q : Nat) : Int)] rfl rfl (Qsa _ _ _ _) (by simp [Value.oneCell']) (by unfold maxLen; omega) (by omega) (by simp; omega) ?_; intro v' w4 hown' hgrow _ hat)
      have hA2 := hA.more hown' hgrow
      refine ⟨⟨q + 1, l ++ [(p, q)], by omega, by go_num, hA2, HL2, by simp; omega⟩, by simp [intOf]; omega⟩
    ·have e : n = q := by omega
     subst e
     have HL2 : Hid (l = Qda n F (p + 1) 0) := by show _ = _; rw [← Qym]; exact HL.out
     go_wp2_with fail
     refine ⟨⟨p + 1, l, by omega, by go_num, hA, HL2, by omega⟩, by simp [intOf]; omega⟩
  ·have e : n = p := by omega
   subst e
   have ho := hA.own
   rw [HL.out] at ho
   go_wp2_with fail
   go_ret
   exact ⟨_, rfl, Qwk ho (by omega), hA.below⟩
def Qcw (N : Nat) (l : List (Int × Int)) : Nat → Nat → Bool := l.foldl (fun F x => Qmn N F x.1 x.2 true) (fun _ _ => false)
theorem Qyn (N : Nat) (l : List (Int × Int)) (x : Int × Int) : Qcw N (l ++ [x]) = Qmn N (Qcw N l) x.1 x.2 true := by simp [Qcw]
theorem Qh3 {N : Nat} {l : List (Int × Int)} {k : Nat} {a b : Int} (h : l[k]? = some (a, b)) : Qmn N (Qcw N (l.take k)) a b true = Qcw N (l.take (k + 1)) := by
 rw [List.take_add_one, h]
 exact (Qyn N _ (a, b)).symm
theorem Qwl (n : Int) (v : Option Addr) (cap : Nat) (w : World) (N : Nat) (HN : Hid (Qau n = N)) (h0 : 0 ≤ n) (h9 : n ≤ 256) :
  Calls Tryz.prog 103 #[.int .i64 n, .slice v 0 cap] w fun e w' => ∃ M rb', e = .returned (.agg #[.int .i64 ((N : Nat) : Int), M]) ∧ RefM w.heap.size w' M N N rb' (Qcw N []) ∧ Below w.heap.size w w' := by
 go_enter Tryz.func103, Tryz.ntmps103
 go_wp2_with fail
 refine (Qhw n h0 h9 _).mono ?_
 rw [HN.out]
 rintro e w1 ⟨M, rbw, rfl, hRM, hB1⟩
 obtain ⟨x2, y2, z2, rfl⟩ := hRM.slice
 have hA : MkAt w (w1.alloc (.cells #[.int .i64 ((N : Nat) : Int), .slice x2 y2 z2] 51)) 1 [(0, #[.int .i64 0, .slice none 0 0])] w1.heap.size N (.slice x2 y2 z2) rbw (Qcw N []) := by
  refine MkAt.begin ((Below.refl _ w).alloc (Nat.le_refl _) _) (by simp) ?_ hRM hB1
  intro x hx
  simp only [List.mem_cons, List.not_mem_nil, or_false] at hx
  subst hx
  exact ⟨by omega, Blk.new w _ _⟩
 clear hRM hB1
 go_wp2_with fail
 generalize w1.heap.size = B at *
 go_loopw [6] (fun i wr => i = .int .i64 0 ∧ MkAt w wr 1 [(0, #[.int .i64 0, .slice none 0 0])] B N (.slice x2 y2 z2) rbw (Qcw N [])) (fun _ _ => 0)
 case atStart => exact ⟨rfl, hA⟩
 case round =>
  clear hA
  obtain ⟨rfl, hA⟩ := hrel
  have b0 := hA.box.cell (j := 0) rfl
  have b1 := hA.box.cell (j := 1) rfl
  have hr := hA.fst
  rw [Nat.add_zero] at hr
  have d0 := hr.cell (j := 0) rfl
  have d1 := hr.cell (j := 1) rfl
  have f0 := hr.frozen 0
  have f1 := hr.frozen 1
  go_wp2_with fail
  have hres := (hr.set 0 (.int .i64 ((N : Nat) : Int))).set 1 (.slice x2 y2 z2)
  simp only [List.setIfInBounds_toArray, List.set_cons_zero, List.set_cons_succ] at hres
  (try simp only [Exit.inBlock, Exit.then])
  refine bodyPost_ret (Qbq rfl rfl hres) rfl ?_
  obtain ⟨hA1, hB1⟩ := hA.answer (r := 0) (by omega)
  rw [Nat.add_zero] at hA1 hB1
  first | exact ⟨_, rbw, rfl, hA1, hB1⟩ | exact ⟨_, rfl, ⟨rbw, hA1⟩, hB1⟩
theorem Qwm (n : Int) (s o cap : Nat) (l : List (Int × Int)) (w : World) (hPA : PairsAt w s o l) (hm : l.length ≤ 9223372036854775807) (N : Nat) (HN : Hid (Qau n = N)) (h0 : 0 ≤ n) (h9 : n ≤ 256) :
  Calls Tryz.prog 103 #[.int .i64 n, .slice (some ⟨s, o, none⟩) l.length cap] w fun e w' => ∃ M rb', e = .returned (.agg #[.int .i64 ((N : Nat) : Int), M]) ∧ RefM w.heap.size w' M N N rb' (Qcw N l) ∧ Below w.heap.size w w' := by
 go_enter Tryz.func103, Tryz.ntmps103
 go_wp2_with fail
 refine (Qhw n h0 h9 _).mono ?_
 rw [HN.out]
 rintro e w1 ⟨M, rbw, rfl, hRM, hB1⟩
 obtain ⟨x2, y2, z2, rfl⟩ := hRM.slice
 have hA : MkAt w (w1.alloc (.cells #[.int .i64 ((N : Nat) : Int), .slice x2 y2 z2] 51)) 1 [(0, #[.int .i64 0, .slice none 0 0])] w1.heap.size N (.slice x2 y2 z2) rbw (Qcw N (l.take 0)) := by
  refine MkAt.begin ((Below.refl _ w).alloc (Nat.le_refl _) _) (by simp) ?_ hRM hB1
  intro x hx
  simp only [List.mem_cons, List.not_mem_nil, or_false] at hx
  subst hx
  exact ⟨by omega, Blk.new w _ _⟩
 clear hRM hB1
 go_wp2_with fail
 generalize w1.heap.size = B at *
 go_loopw [6] (fun i wr => ∃ k, k ≤ l.length ∧ i = .int .i64 ((k : Nat) : Int) ∧ MkAt w wr 1 [(0, #[.int .i64 0, .slice none 0 0])] B N (.slice x2 y2 z2) rbw (Qcw N (l.take k))) (fun i _ => l.length - (intOf i).toNat)
 case atStart => exact ⟨0, by omega, rfl, hA⟩
 case round =>
  clear hA
  obtain ⟨k, hk, rfl, hA⟩ := hrel
  by_cases hlt : k < l.length
  ·obtain ⟨⟨xa, xb⟩, hx⟩ : ∃ x, l[k]? = some x := ⟨_, List.getElem?_eq_getElem hlt⟩
   cases ha : inR N xa
   ·have HE0 : Hid (Qcw N (l.take k) = Qcw N (l.take (k + 1))) := by
     show _ = _
     rw [← Qh3 (N := N) hx]
     unfold Qmn
     rw [ha]
     rfl
    go_wp2_with fail
    have p0 := (hPA.below hA.below).fst k _ hx
    have p1 := (hPA.below hA.below).snd k _ hx
    dsimp only at p0 p1
    have K0 : (0 : Int) ≤ ((k : Nat) : Int) := by omega
    have K1 : ((k : Nat) : Int) < ((l.length : Nat) : Int) := by omega
    have hAd := hA.drew
    refine wp_region_held_drew (S := fun W => W.cell? ⟨B, 0, none⟩ = some (.int .i64 ((N : Nat) : Int)) ∧ W.cell? ⟨B, 1, none⟩ = some (.slice x2 y2 z2) ∧ W.cell? ⟨s, o + k * 2, none⟩ = some (.int .i64 xa) ∧ W.cell? ⟨s, o + k * 2 + 1, none⟩ = some (.int .i64 xb)) (by kernel_rfl) ⟨hA.box.cell rfl, hA.box.cell rfl, p0, p1⟩ (fun hHeld => ?_)
    clear hA p0 p1
    generalize wr.drew = W1 at *
    refine tk 0 rfl ?_; simp only [zz]
    refine tk 1 rfl ?_; simp only [zz]
    refine tk 2 rfl ?_; simp only [zz]
    refine tk 3 rfl ?_; simp only [zz]
    refine tk 4 rfl ?_; simp only [zz]
    refine tk 5 rfl ?_; simp only [zz]
    refine wpAnyH_ready (rs := [6]) (by kernel_rfl) (by simp) ?_
    refine rdy rfl (fun K hK => ?_) AllReadyH.nil
    simp only [zw]
    go_simp
    refine (Qez false N x2 y2 z2 xa _ ha).mono ?_
    rintro e w5 ⟨rfl, hB5⟩
    have hA5 := hAd.step hB5
    refine hK.out _ _ ⟨hA5.box.cell rfl, hA5.box.cell rfl, (hPA.below hA5.below).fst k _ hx, (hPA.below hA5.below).snd k _ hx⟩ (fun hHeld => ?_)
    clear hK K
    try simp only [zz]
    refine tk 7 rfl ?_; simp only [zz]
    refine tu 8 rfl ?_; simp only [zz]
    refine tu 9 rfl ?_; simp only [zz]
    refine tu 10 rfl ?_; simp only [zz]
    refine tu 11 rfl ?_; simp only [zz]
    refine tu 12 rfl ?_; simp only [zz]
    refine tu 13 rfl ?_; simp only [zz]
    refine tu 14 rfl ?_; simp only [zz]
    refine tk 15 rfl ?_; simp only [zz]
    refine wpAnyH_done (by kernel_rfl) ?_ _
    try simp only [zz]
    clear hHeld
    rw [HE0.out] at hA5
    go_wp2_with fail
    refine ⟨⟨k + 1, by omega, by go_num, hA5⟩, by simp [intOf]; omega⟩
   ·cases hb : inR N xb
    ·have HE1 : Hid (Qcw N (l.take k) = Qcw N (l.take (k + 1))) := by
      show _ = _
      rw [← Qh3 (N := N) hx]
      unfold Qmn
      rw [ha, hb]
      rfl
     go_wp2_with fail
     have p0 := (hPA.below hA.below).fst k _ hx
     have p1 := (hPA.below hA.below).snd k _ hx
     dsimp only at p0 p1
     have K0 : (0 : Int) ≤ ((k : Nat) : Int) := by omega
     have K1 : ((k : Nat) : Int) < ((l.length : Nat) : Int) := by omega
     have hAd := hA.drew
     refine wp_region_held_drew (S := fun W => W.cell? ⟨B, 0, none⟩ = some (.int .i64 ((N : Nat) : Int)) ∧ W.cell? ⟨B, 1, none⟩ = some (.slice x2 y2 z2) ∧ W.cell? ⟨s, o + k * 2, none⟩ = some (.int .i64 xa) ∧ W.cell? ⟨s, o + k * 2 + 1, none⟩ = some (.int .i64 xb)) (by kernel_rfl) ⟨hA.box.cell rfl, hA.box.cell rfl, p0, p1⟩ (fun hHeld => ?_)
     clear hA p0 p1
     generalize wr.drew = W1 at *
     refine tk 0 rfl ?_; simp only [zz]
     refine tk 1 rfl ?_; simp only [zz]
     refine tk 2 rfl ?_; simp only [zz]
     refine tk 3 rfl ?_; simp only [zz]
     refine tk 4 rfl ?_; simp only [zz]
     refine tk 5 rfl ?_; simp only [zz]
     refine wpAnyH_ready (rs := [6]) (by kernel_rfl) (by simp) ?_
     refine rdy rfl (fun K hK => ?_) AllReadyH.nil
     simp only [zw]
     go_simp
     refine (Qez true N x2 y2 z2 xa _ ha).mono ?_
     rintro e w5 ⟨rfl, hB5⟩
     have hA5 := hAd.step hB5
     refine hK.out _ _ ⟨hA5.box.cell rfl, hA5.box.cell rfl, (hPA.below hA5.below).fst k _ hx, (hPA.below hA5.below).snd k _ hx⟩ (fun hHeld => ?_)
     clear hK K
     try simp only [zz]
     refine tk 7 rfl ?_; simp only [zz]
     refine tk 8 rfl ?_; simp only [zz]
     refine tk 9 rfl ?_; simp only [zz]
     refine tk 10 rfl ?_; simp only [zz]
     refine tk 11 rfl ?_; simp only [zz]
     refine tk 12 rfl ?_; simp only [zz]
     refine tk 13 rfl ?_; simp only [zz]
     refine wpAnyH_ready (rs := [14]) (by kernel_rfl) (by simp) ?_
     refine rdy rfl (fun K hK => ?_) AllReadyH.nil
     simp only [zw]
     go_simp
     refine (Qez false N x2 y2 z2 xb _ hb).mono ?_
     rintro e w6 ⟨rfl, hB6⟩
     have hA6 := hA5.step hB6
     refine hK.out _ _ ⟨hA6.box.cell rfl, hA6.box.cell rfl, (hPA.below hA6.below).fst k _ hx, (hPA.below hA6.below).snd k _ hx⟩ (fun hHeld => ?_)
     clear hK K
     try simp only [zz]
     refine tk 15 rfl ?_; simp only [zz]
     refine wpAnyH_done (by kernel_rfl) ?_ _
     try simp only [zz]
     clear hHeld
     rw [HE1.out] at hA6
     go_wp2_with fail
     refine ⟨⟨k + 1, by omega, by go_num, hA6⟩, by simp [intOf]; omega⟩
    ·have HE2 : Hid (upd (Qcw N (l.take k)) xa.toNat xb.toNat true = Qcw N (l.take (k + 1))) := by
      show _ = _
      rw [← Qh3 (N := N) hx]
      unfold Qmn
      rw [ha, hb]
      rfl
     go_wp2_with fail
     have p0 := (hPA.below hA.below).fst k _ hx
     have p1 := (hPA.below hA.below).snd k _ hx
     dsimp only at p0 p1
     have K0 : (0 : Int) ≤ ((k : Nat) : Int) := by omega
     have K1 : ((k : Nat) : Int) < ((l.length : Nat) : Int) := by omega
     have hAd := hA.drew
     refine wp_region_held_drew (S := fun W => W.cell? ⟨B, 0, none⟩ = some (.int .i64 ((N : Nat) : Int)) ∧ W.cell? ⟨B, 1, none⟩ = some (.slice x2 y2 z2) ∧ W.cell? ⟨s, o + k * 2, none⟩ = some (.int .i64 xa) ∧ W.cell? ⟨s, o + k * 2 + 1, none⟩ = some (.int .i64 xb)) (by kernel_rfl) ⟨hA.box.cell rfl, hA.box.cell rfl, p0, p1⟩ (fun hHeld => ?_)
     clear hA p0 p1
     generalize wr.drew = W1 at *
     refine tk 0 rfl ?_; simp only [zz]
     refine tk 1 rfl ?_; simp only [zz]
     refine tk 2 rfl ?_; simp only [zz]
     refine tk 3 rfl ?_; simp only [zz]
     refine tk 4 rfl ?_; simp only [zz]
     refine tk 5 rfl ?_; simp only [zz]
     refine wpAnyH_ready (rs := [6]) (by kernel_rfl) (by simp) ?_
     refine rdy rfl (fun K hK => ?_) AllReadyH.nil
     simp only [zw]
     go_simp
     refine (Qez true N x2 y2 z2 xa _ ha).mono ?_
     rintro e w5 ⟨rfl, hB5⟩
     have hA5 := hAd.step hB5
     refine hK.out _ _ ⟨hA5.box.cell rfl, hA5.box.cell rfl, (hPA.below hA5.below).fst k _ hx, (hPA.below hA5.below).snd k _ hx⟩ (fun hHeld => ?_)
     clear hK K
     try simp only [zz]
     refine tk 7 rfl ?_; simp only [zz]
     refine tk 8 rfl ?_; simp only [zz]
     refine tk 9 rfl ?_; simp only [zz]
     refine tk 10 rfl ?_; simp only [zz]
     refine tk 11 rfl ?_; simp only [zz]
     refine tk 12 rfl ?_; simp only [zz]
     refine tk 13 rfl ?_; simp only [zz]
     refine wpAnyH_ready (rs := [14]) (by kernel_rfl) (by simp) ?_
     refine rdy rfl (fun K hK => ?_) AllReadyH.nil
     simp only [zw]
     go_simp
     refine (Qez true N x2 y2 z2 xb _ hb).mono ?_
     rintro e w6 ⟨rfl, hB6⟩
     have hA6 := hA5.step hB6
     refine hK.out _ _ ⟨hA6.box.cell rfl, hA6.box.cell rfl, (hPA.below hA6.below).fst k _ hx, (hPA.below hA6.below).snd k _ hx⟩ (fun hHeld => ?_)
     clear hK K
     try simp only [zz]
     refine tk 15 rfl ?_; simp only [zz]
     refine wpAnyH_done (by kernel_rfl) ?_ _
     try simp only [zz]
     clear hHeld
     have hA7 := hA6
     clear hA5 hA6 hB5 hB6
     have hpa := (hPA.below hA7.below).fst k _ hx
     have hpb := (hPA.below hA7.below).snd k _ hx
     dsimp only at hpa hpb
     obtain ⟨pa, rfl⟩ : ∃ pa : Nat, xa = ((pa : Nat) : Int) := ⟨xa.toNat, by unfold inR at ha; simp at ha; omega⟩
     obtain ⟨pb, rfl⟩ : ∃ pb : Nat, xb = ((pb : Nat) : Int) := ⟨xb.toNat, by unfold inR at hb; simp at hb; omega⟩
     have hpaN : pa < N := by unfold inR at ha; simp at ha; omega
     have hpbN : pb < N := by unfold inR at hb; simp at hb; omega
     have d1 := hA7.box.cell (j := 1) rfl
     obtain ⟨g2, cap2, e2, _, _, n2, s0, s1, fz, q3⟩ := hA7.ref.at_ (p := pa) (q := pb) hpaN hpbN
     cases e2
     have hA8 := hA7.drew.put (p := pa) (q := pb) hpaN hpbN true
     rw [show upd (Qcw N (l.take k)) pa pb true = Qcw N (l.take (k + 1)) from HE2.out] at hA8
     clear hx ha hb
     go_wp2_with fail
     go_region
     all_goals
      go_wp2_with fail
      refine ⟨⟨k + 1, by omega, by go_num, hA8⟩, by simp [intOf]; omega⟩
  ·have e : l.length = k := by omega
   rw [← e, List.take_length] at hA
   subst e
   clear hPA
   have b0 := hA.box.cell (j := 0) rfl
   have b1 := hA.box.cell (j := 1) rfl
   have hr := hA.fst
   rw [Nat.add_zero] at hr
   have d0 := hr.cell (j := 0) rfl
   have d1 := hr.cell (j := 1) rfl
   have f0 := hr.frozen 0
   have f1 := hr.frozen 1
   go_wp2_with fail
   have hres := (hr.set 0 (.int .i64 ((N : Nat) : Int))).set 1 (.slice x2 y2 z2)
   simp only [List.setIfInBounds_toArray, List.set_cons_zero, List.set_cons_succ] at hres
   (try simp only [Exit.inBlock, Exit.then])
   refine bodyPost_ret (Qbq rfl rfl hres) rfl ?_
   obtain ⟨hA1, hB1⟩ := hA.answer (r := 0) (by omega)
   rw [Nat.add_zero] at hA1 hB1
   first | exact ⟨_, rbw, rfl, hA1, hB1⟩ | exact ⟨_, rfl, ⟨rbw, hA1⟩, hB1⟩
theorem Qtm (n : Int) (v : Value) (l : List (Int × Int)) (w : World) (h : PArg w v l) (h0 : 0 ≤ n) (h9 : n ≤ 256) :
  Calls Tryz.prog 103 #[.int .i64 n, v] w fun e w' => ∃ M rb', e = .returned (.agg #[.int .i64 ((Qau n : Nat) : Int), M]) ∧ RefM w.heap.size w' M (Qau n) (Qau n) rb' (Qcw (Qau n) l) ∧ Below w.heap.size w w' := by
 rcases h with ⟨x, cap, rfl, rfl⟩ | ⟨s, o, cap, rfl, h2, h3⟩
 ·exact Qwl n x cap w _ rfl h0 h9
 ·exact Qwm n s o cap l w h2 h3 _ rfl h0 h9
def SetArg (w : World) (v : Value) (l : List Bool) : Prop := (∃ a cap, v = .slice a 0 cap ∧ l = []) ∨ ∃ s o cap, v = .slice (some ⟨s, o, none⟩) l.length cap ∧ s < w.heap.size ∧ ∀ (i : Nat) (x : Bool), l[i]? = some x → w.cell? ⟨s, o + i, none⟩ = some (.bool x)
theorem SetArg.below {w w' : World} {v : Value} {l : List Bool} (h : SetArg w v l) (hb : Below w.heap.size w w') : SetArg w' v l := by
 rcases h with h | ⟨s, o, cap, h1, h2, h3⟩
 ·exact .inl h
 ·exact .inr ⟨s, o, cap, h1, Nat.lt_of_lt_of_le h2 hb.size, fun i x hx => (hb.cell (p := ⟨s, o + i, none⟩) h2).trans (h3 i x hx)⟩
theorem Qtn (v : Value) (l : List Bool) (p : Nat) (w : World) (h : SetArg w v l) :
  Calls Tryz.prog 104 #[v, .int .i64 ((p : Nat) : Int)] w fun e w' => e = .returned (.bool (l.getD p false)) ∧ Below w.heap.size w w' := by
 have hv : ∃ a cap, v = .slice a l.length cap := by
  rcases h with ⟨a, cap, rfl, rfl⟩ | ⟨s, o, cap, rfl, _⟩
  ·exact ⟨_, _, rfl⟩
  ·exact ⟨_, _, rfl⟩
 by_cases hp : p < l.length
 ·obtain ⟨s, o, cap, rfl, _, hc⟩ : ∃ s o cap, v = .slice (some ⟨s, o, none⟩) l.length cap ∧ s < w.heap.size ∧ ∀ (i : Nat) (x : Bool), l[i]? = some x → w.cell? ⟨s, o + i, none⟩ = some (.bool x) := by
   rcases h with ⟨a, cap, _, rfl⟩ | h
   ·simp at hp
   ·exact h
  have hx := hc p _ (List.getElem?_eq_getElem hp)
  have e : l.getD p false = l[p] := by rw [List.getD_eq_getElem?_getD, List.getElem?_eq_getElem hp]; rfl
  rw [e]
  clear e hc h hv
  generalize l[p] = b at *
  go_enter Tryz.func104, Tryz.ntmps104
  go_wp2_with fail
  go_ret
  exact ⟨rfl, Below.refl _ _⟩
 ·obtain ⟨a, cap, rfl⟩ := hv
  have e : l.getD p false = false := by rw [List.getD_eq_getElem?_getD, List.getElem?_eq_none (by omega)]; rfl
  rw [e]
  clear e h
  go_enter Tryz.func104, Tryz.ntmps104
  go_wp2_with fail
  go_ret
  exact ⟨rfl, Below.refl _ _⟩
theorem Qok (lo lo2 n m N : Nat) (hn : n ≤ 256) (hm : m ≤ 256) (HN : Hid (N = max n m)) (x : Option Addr) (y z : Nat) (rb : Nat → Nat) (F : Nat → Nat → Bool) (x1 : Option Addr) (y1 z1 : Nat) (rb1 : Nat → Nat) (G : Nat → Nat → Bool) (w : World) (h : RefM lo w (.slice x y z) n n rb F) (h1 : RefM lo2 w (.slice x1 y1 z1) m m rb1 G) :
  Calls Tryz.prog 107 #[.agg #[.int .i64 ((n : Nat) : Int), .slice x y z], .agg #[.int .i64 ((m : Nat) : Int), .slice x1 y1 z1]] w fun e w' => ∃ M rb', e = .returned (.agg #[.int .i64 ((N : Nat) : Int), M]) ∧ RefM w.heap.size w' M N N rb' (fun p q => Qad n F p q || Qad m G p q) ∧ Below w.heap.size w w' := by
 have hN : N ≤ 256 := by have := HN.out; omega
 have hnN : n ≤ N := by have := HN.out; omega
 have hmN : m ≤ N := by have := HN.out; omega
 go_enter Tryz.func107, Tryz.ntmps107
 go_wp2_with fail
 refine (Qfr lo n hn x y z rb F m N hm HN _ (((h.alloc _).alloc _).alloc _)).mono ?_
 rintro e w1 ⟨M, rbw, rfl, hRM, hB1⟩
 obtain ⟨x2, y2, z2, rfl⟩ := hRM.slice
 have hA : MkAt w (w1.alloc (.cells #[.int .i64 ((N : Nat) : Int), .slice x2 y2 z2] 51)) 3 [(0, #[.int .i64 ((n : Nat) : Int), .slice x y z]), (1, #[.int .i64 ((m : Nat) : Int), .slice x1 y1 z1]), (2, #[.int .i64 0, .slice none 0 0])] w1.heap.size N (.slice x2 y2 z2) rbw (Qam (fun p q => Qad n F p q || G p q) (Qad n F) m 0 0) := by
  refine MkAt.begin ((((Below.refl _ w).alloc (Nat.le_refl _) _).alloc (by simp) _).alloc (by simp; omega) _) (by simp) ?_ (hRM.congr fun p q hp hq => ?_) hB1
  ·intro x hx
   simp only [List.mem_cons, List.not_mem_nil, or_false] at hx
   rcases hx with rfl | rfl | rfl
   ·exact ⟨by omega, ((Blk.new w _ _).alloc _).alloc _⟩
   ·exact ⟨by omega, (Blk.new2 w _ _ _).alloc _⟩
   ·exact ⟨by omega, Blk.new3 w _ _ _ _⟩
  ·rw [Qc6, Qho]
 clear hRM hB1
 go_wp2_with fail
 generalize w1.heap.size = B at *
 go_loopw [6] (fun i wr => ∃ a, a ≤ m ∧ i = .int .i64 ((a : Nat) : Int) ∧ MkAt w wr 3 [(0, #[.int .i64 ((n : Nat) : Int), .slice x y z]), (1, #[.int .i64 ((m : Nat) : Int), .slice x1 y1 z1]), (2, #[.int .i64 0, .slice none 0 0])] B N (.slice x2 y2 z2) rbw (Qam (fun p q => Qad n F p q || G p q) (Qad n F) m a 0)) (fun i _ => m - (intOf i).toNat)
 case atStart => exact ⟨0, by omega, rfl, hA⟩
 case round =>
  clear hA
  obtain ⟨a, ha, rfl, hA⟩ := hrel
  (try dsimp only at hA)
  have c0 := hA.snd.cell (j := 0) rfl
  by_cases hlt : a < m
  ·go_wp2_with fail
   clear c0
   go_loopw [7] (fun i wr => ∃ b, b ≤ m ∧ i = .int .i64 ((b : Nat) : Int) ∧ MkAt w wr 3 [(0, #[.int .i64 ((n : Nat) : Int), .slice x y z]), (1, #[.int .i64 ((m : Nat) : Int), .slice x1 y1 z1]), (2, #[.int .i64 0, .slice none 0 0])] B N (.slice x2 y2 z2) rbw (Qam (fun p q => Qad n F p q || G p q) (Qad n F) m a b)) (fun i _ => m - (intOf i).toNat)
   case atStart => exact ⟨0, by omega, rfl, hA⟩
   case round =>
    clear hA
    obtain ⟨b, hb, rfl, hA⟩ := hrel
    (try dsimp only at hA)
    have c0 := hA.snd.cell (j := 0) rfl
    by_cases hlt2 : b < m
    ·skip
     have c2 := hA.snd.cell (j := 1) rfl
     have d1 := hA.box.cell (j := 1) rfl
     obtain ⟨g1, cap1, e1, q1, _, _, r0, r1, _, _⟩ := (h1.below hA.below).at_ hlt hlt2
     obtain ⟨g2, cap2, e2, q2, _, n2, s0, s1, fz, q3⟩ := hA.ref.at_ (p := a) (q := b) (by omega) (by omega)
     cases e1
     cases e2
     rw [Qjr] at s1
     have hA2 := hA.drew.put (p := a) (q := b) (by omega) (by omega) (Qad n F a b || G a b)
     rw [Qe (fun p q => Qad n F p q || G p q)] at hA2
     have haN : a < N := by omega
     have hbN : b < N := by omega
     cases hv : Qad n F a b
     ·rw [hv] at s1 hA2
      rw [Bool.false_or] at hA2
      go_wp2_with fail
      go_region
      all_goals
       go_wp2_with fail
       refine ⟨⟨b + 1, by omega, by go_num, hA2⟩, by simp [intOf]; omega⟩
     ·rw [hv] at s1 hA2
      rw [Bool.true_or] at hA2
      go_wp2_with fail
      go_region
      all_goals
       go_wp2_with fail
       refine ⟨⟨b + 1, by omega, by go_num, hA2⟩, by simp [intOf]; omega⟩
    ·have e : m = b := by omega
     subst e
     rw [Qdn] at hA
     go_wp2_with fail
     refine ⟨⟨a + 1, by omega, by go_num, hA⟩, by simp [intOf]; omega⟩
  ·have e : m = a := by omega
   subst e
   have hA := hA.congr (G := fun p q => Qad n F p q || Qad m G p q) (fun p q hp hq => by exact Qwg n m F G p q)
   have b0 := hA.box.cell (j := 0) rfl
   have b1 := hA.box.cell (j := 1) rfl
   have hr := hA.trd
   have d0 := hr.cell (j := 0) rfl
   have d1 := hr.cell (j := 1) rfl
   have f0 := hr.frozen 0
   have f1 := hr.frozen 1
   go_wp2_with fail
   have hres := (hr.set 0 (.int .i64 ((N : Nat) : Int))).set 1 (.slice x2 y2 z2)
   simp only [List.setIfInBounds_toArray, List.set_cons_zero, List.set_cons_succ] at hres
   (try simp only [Exit.inBlock, Exit.then])
   refine bodyPost_ret (Qbq rfl rfl hres) rfl ?_
   obtain ⟨hA1, hB1⟩ := hA.answer (r := 2) (by omega)
   first | exact ⟨_, rbw, rfl, hA1, hB1⟩ | exact ⟨_, rfl, ⟨rbw, hA1⟩, hB1⟩
theorem Qol (lo lo2 n m N : Nat) (hn : n ≤ 256) (hm : m ≤ 256) (HN : Hid (N = max n m)) (x : Option Addr) (y z : Nat) (rb : Nat → Nat) (F : Nat → Nat → Bool) (x1 : Option Addr) (y1 z1 : Nat) (rb1 : Nat → Nat) (G : Nat → Nat → Bool) (w : World) (h : RefM lo w (.slice x y z) n n rb F) (h1 : RefM lo2 w (.slice x1 y1 z1) m m rb1 G) :
  Calls Tryz.prog 52 #[.agg #[.int .i64 ((n : Nat) : Int), .slice x y z], .agg #[.int .i64 ((m : Nat) : Int), .slice x1 y1 z1]] w fun e w' => ∃ M rb', e = .returned (.agg #[.int .i64 ((N : Nat) : Int), M]) ∧ RefM w.heap.size w' M N N rb' (fun p q => Qad n F p q && Qad m G p q) ∧ Below w.heap.size w w' := by
 have hN : N ≤ 256 := by have := HN.out; omega
 have hnN : n ≤ N := by have := HN.out; omega
 have hmN : m ≤ N := by have := HN.out; omega
 go_enter Tryz.func52, Tryz.ntmps52
 go_wp2_with fail
 refine (Qfr lo n hn x y z rb F m N hm HN _ (((h.alloc _).alloc _).alloc _)).mono ?_
 rintro e w1 ⟨M, rbw, rfl, hRM, hB1⟩
 obtain ⟨x2, y2, z2, rfl⟩ := hRM.slice
 have hA : MkAt w (w1.alloc (.cells #[.int .i64 ((N : Nat) : Int), .slice x2 y2 z2] 51)) 3 [(0, #[.int .i64 ((n : Nat) : Int), .slice x y z]), (1, #[.int .i64 ((m : Nat) : Int), .slice x1 y1 z1]), (2, #[.int .i64 0, .slice none 0 0])] w1.heap.size N (.slice x2 y2 z2) rbw (Qam (fun p q => Qad n F p q && Qad m G p q) (Qad n F) N 0 0) := by
  refine MkAt.begin ((((Below.refl _ w).alloc (Nat.le_refl _) _).alloc (by simp) _).alloc (by simp; omega) _) (by simp) ?_ (hRM.congr fun p q hp hq => ?_) hB1
  ·intro x hx
   simp only [List.mem_cons, List.not_mem_nil, or_false] at hx
   rcases hx with rfl | rfl | rfl
   ·exact ⟨by omega, ((Blk.new w _ _).alloc _).alloc _⟩
   ·exact ⟨by omega, (Blk.new2 w _ _ _).alloc _⟩
   ·exact ⟨by omega, Blk.new3 w _ _ _ _⟩
  ·rw [Qc6, Qho]
 clear hRM hB1
 go_wp2_with fail
 generalize w1.heap.size = B at *
 go_loopw [6] (fun i wr => ∃ a, a ≤ N ∧ i = .int .i64 ((a : Nat) : Int) ∧ MkAt w wr 3 [(0, #[.int .i64 ((n : Nat) : Int), .slice x y z]), (1, #[.int .i64 ((m : Nat) : Int), .slice x1 y1 z1]), (2, #[.int .i64 0, .slice none 0 0])] B N (.slice x2 y2 z2) rbw (Qam (fun p q => Qad n F p q && Qad m G p q) (Qad n F) N a 0)) (fun i _ => N - (intOf i).toNat)
 case atStart => exact ⟨0, by omega, rfl, hA⟩
 case round =>
  clear hA
  obtain ⟨a, ha, rfl, hA⟩ := hrel
  (try dsimp only at hA)
  have c0 := hA.box.cell (j := 0) rfl
  by_cases hlt : a < N
  ·go_wp2_with fail
   clear c0
   go_loopw [7] (fun i wr => ∃ b, b ≤ N ∧ i = .int .i64 ((b : Nat) : Int) ∧ MkAt w wr 3 [(0, #[.int .i64 ((n : Nat) : Int), .slice x y z]), (1, #[.int .i64 ((m : Nat) : Int), .slice x1 y1 z1]), (2, #[.int .i64 0, .slice none 0 0])] B N (.slice x2 y2 z2) rbw (Qam (fun p q => Qad n F p q && Qad m G p q) (Qad n F) N a b)) (fun i _ => N - (intOf i).toNat)
   case atStart => exact ⟨0, by omega, rfl, hA⟩
   case round =>
    clear hA
    obtain ⟨b, hb, rfl, hA⟩ := hrel
    (try dsimp only at hA)
    have c0 := hA.box.cell (j := 0) rfl
    by_cases hlt2 : b < N
    ·skip
     have d1 := hA.box.cell (j := 1) rfl
     have c2 := hA.snd.cell (j := 1) rfl
     obtain ⟨g2, cap2, e2, q2, _, n2, s0, s1, fz, q3⟩ := hA.ref.at_ (p := a) (q := b) (by omega) (by omega)
     cases e2
     rw [Qjr] at s1
     have haN : a < N := by omega
     have hbN : b < N := by omega
     cases hv : Qad n F a b
     ·rw [hv] at s1
      have hA2 := (hA.drew.put (p := a) (q := b) (by omega) (by omega) false).congr (G := Qam (fun p q => Qad n F p q && Qad m G p q) (Qad n F) N a (b + 1)) (fun p q _ _ => congrFun (congrFun (Qg6 (G := fun p q => Qad n F p q && Qad m G p q) (by rw [hv, Bool.false_and])) p) q)
      go_wp2_with fail
      go_region
      all_goals
       go_wp2_with fail
       refine ⟨⟨b + 1, by omega, by go_num, hA2⟩, by simp [intOf]; omega⟩
     ·rw [hv] at s1
      go_wp2_with fail
      have k0 := hA.snd.cell (j := 0) rfl
      have k1 := hA.snd.cell (j := 1) rfl
      have A0 : (0 : Int) ≤ ((a : Nat) : Int) := by omega
      have A1 : ((a : Nat) : Int) < ((N : Nat) : Int) := by omega
      have B0 : (0 : Int) ≤ ((b : Nat) : Int) := by omega
      have B1 : ((b : Nat) : Int) < ((N : Nat) : Int) := by omega
      have hAd := hA.drew
      have s1' : wr.drew.cell? ⟨rbw a, b, none⟩ = some (.bool true) := s1
      refine wp_region_held_drew (S := fun W => W.cell? ⟨B, 1, none⟩ = some (.slice (some ⟨g2, 0, none⟩) N z2) ∧ W.cell? ⟨g2, a, none⟩ = some (hdr N (rbw a)) ∧ W.cell? ⟨w.heap.size + 1, 0, none⟩ = some (.int .i64 ((m : Nat) : Int)) ∧ W.cell? ⟨w.heap.size + 1, 1, none⟩ = some (.slice x1 y1 z1)) (by kernel_rfl) ⟨d1, s0, k0, k1⟩ (fun hHeld => ?_)
      clear hA s0 s1 d1 k0 k1 c0 c2 fz
      generalize wr.drew = W1 at *
      refine tk 0 rfl ?_; simp only [zz]
      refine tk 1 rfl ?_; simp only [zz]
      refine tk 2 rfl ?_; simp only [zz]
      refine tk 3 rfl ?_; simp only [zz]
      refine tk 4 rfl ?_; simp only [zz]
      refine tk 5 rfl ?_; simp only [zz]
      refine tk 6 rfl ?_; simp only [zz]
      refine tk 7 rfl ?_; simp only [zz]
      refine tk 8 rfl ?_; simp only [zz]
      refine tk 9 rfl ?_; simp only [zz]
      refine tk 10 rfl ?_; simp only [zz]
      refine tk 11 rfl ?_; simp only [zz]
      refine tk 12 rfl ?_; simp only [zz]
      refine wpAnyH_ready (rs := [13]) (by kernel_rfl) (by simp) ?_
      refine rdy rfl (fun K hK => ?_) AllReadyH.nil
      simp only [zw]
      go_simp
      refine hK.out _ _ hHeld (fun hHeld => ?_)
      clear hK K s1'
      try simp only [zz]
      refine tk 14 rfl ?_; simp only [zz]
      refine tk 15 rfl ?_; simp only [zz]
      refine tk 16 rfl ?_; simp only [zz]
      refine tk 17 rfl ?_; simp only [zz]
      refine wpAnyH_ready (rs := [18]) (by kernel_rfl) (by simp) ?_
      refine rdy rfl (fun K hK => ?_) AllReadyH.nil
      simp only [zw]
      go_simp
      refine (Qkj lo2 m x1 y1 z1 rb1 G _ _ _ (h1.below hAd.below)).mono ?_
      rintro e w5 ⟨rfl, hB5⟩
      have hA5 := hAd.step hB5
      rw [Qrp]
      have hA6 := hA5.put (p := a) (q := b) haN hbN (Qad m G a b)
      obtain ⟨_, _, e3, _, _, _, s3, s2, fz, _⟩ := hA5.ref.at_ (p := a) (q := b) haN hbN
      cases e3
      refine hK.out _ _ ⟨hA5.box.cell rfl, s3, hA5.snd.cell rfl, hA5.snd.cell rfl⟩ (fun hHeld => ?_)
      clear hK K hAd hB5 s3
      try simp only [zz]
      refine tk 19 rfl ?_; simp only [zz]
      refine tk 20 rfl ?_; simp only [zz]
      refine wpAnyH_ready (rs := [21]) (by kernel_rfl) (by simp) ?_
      refine rdy rfl (fun K hK => ?_) AllReadyH.nil
      simp only [zw]
      go_simp
      obtain ⟨_, _, e3, _, _, _, s3, _, _, _⟩ := hA6.ref.at_ (p := a) (q := b) haN hbN
      cases e3
      refine hK.out _ _ ⟨hA6.box.cell rfl, s3, hA6.snd.cell rfl, hA6.snd.cell rfl⟩ (fun hHeld => ?_)
      clear hK K hHeld s3
      refine wpAnyH_done (by kernel_rfl) ?_ _
      try simp only [zz]
      have hA7 := hA6.congr (G := Qam (fun p q => Qad n F p q && Qad m G p q) (Qad n F) N a (b + 1)) (fun p q _ _ => congrFun (congrFun (Qg6 (G := fun p q => Qad n F p q && Qad m G p q) (by rw [hv, Bool.true_and])) p) q)
      clear hA6 s2 fz
      go_wp2_with fail
      refine ⟨⟨b + 1, by omega, by go_num, hA7⟩, by simp [intOf]; omega⟩
    ·have e : N = b := by omega
     subst e
     rw [Qdn] at hA
     go_wp2_with fail
     refine ⟨⟨a + 1, by omega, by go_num, hA⟩, by simp [intOf]; omega⟩
  ·have e : N = a := by omega
   subst e
   have hA := hA.congr (G := fun p q => Qad n F p q && Qad m G p q) (fun p q hp hq => by exact Qft hp hq)
   have b0 := hA.box.cell (j := 0) rfl
   have b1 := hA.box.cell (j := 1) rfl
   have hr := hA.trd
   have d0 := hr.cell (j := 0) rfl
   have d1 := hr.cell (j := 1) rfl
   have f0 := hr.frozen 0
   have f1 := hr.frozen 1
   go_wp2_with fail
   have hres := (hr.set 0 (.int .i64 ((N : Nat) : Int))).set 1 (.slice x2 y2 z2)
   simp only [List.setIfInBounds_toArray, List.set_cons_zero, List.set_cons_succ] at hres
   (try simp only [Exit.inBlock, Exit.then])
   refine bodyPost_ret (Qbq rfl rfl hres) rfl ?_
   obtain ⟨hA1, hB1⟩ := hA.answer (r := 2) (by omega)
   first | exact ⟨_, rbw, rfl, hA1, hB1⟩ | exact ⟨_, rfl, ⟨rbw, hA1⟩, hB1⟩
def idF (l : List Bool) (k : Nat) : Nat → Nat → Bool := fun p q => decide (p = q) && (decide (p < k) && l.getD p false)
theorem QAp (l : List Bool) (p q : Nat) : idF l 0 p q = false := by simp [idF]
theorem QC2 (l : List Bool) (k p q : Nat) : upd (idF l k) k k (l.getD k false) p q = idF l (k + 1) p q := by
 unfold upd idF
 by_cases h : p = k ∧ q = k
 ·obtain ⟨rfl, rfl⟩ := h
  simp
 ·rw [if_neg h]
  by_cases e : p = q
  ·subst e
   have hk : p ≠ k := fun e => h ⟨e, e⟩
   have : decide (p < k) = decide (p < k + 1) := by rw [decide_eq_decide]; omega
   rw [this]
  ·simp [e]
theorem Qto (n : Int) (v : Value) (l : List Bool) (w : World) (hS0 : SetArg w v l) (N : Nat) (HN : Hid (Qau n = N)) (h0 : 0 ≤ n) (h9 : n ≤ 256) :
  Calls Tryz.prog 49 #[.int .i64 n, v] w fun e w' => ∃ M rb', e = .returned (.agg #[.int .i64 ((N : Nat) : Int), M]) ∧ RefM w.heap.size w' M N N rb' (idF l N) ∧ Below w.heap.size w w' := by
 have hN : N ≤ 256 := by rw [← HN.out]; unfold Qau; omega
 go_enter Tryz.func49, Tryz.ntmps49
 go_wp2_with fail
 refine (Qhw n h0 h9 _).mono ?_
 rw [HN.out]
 rintro e w1 ⟨M, rbw, rfl, hRM, hB1⟩
 obtain ⟨x2, y2, z2, rfl⟩ := hRM.slice
 have hA : MkAt w (w1.alloc (.cells #[.int .i64 ((N : Nat) : Int), .slice x2 y2 z2] 51)) 1 [(0, #[.int .i64 0, .slice none 0 0])] w1.heap.size N (.slice x2 y2 z2) rbw (idF l 0) := by
  refine MkAt.begin ((Below.refl _ w).alloc (Nat.le_refl _) _) (by simp) ?_ (hRM.congr fun p q hp hq => (QAp l p q).symm) hB1
  intro x hx
  simp only [List.mem_cons, List.not_mem_nil, or_false] at hx
  subst hx
  exact ⟨by omega, Blk.new w _ _⟩
 clear hRM hB1
 go_wp2_with fail
 generalize w1.heap.size = B at *
 go_loopw [6] (fun i wr => ∃ a, a ≤ N ∧ i = .int .i64 ((a : Nat) : Int) ∧ MkAt w wr 1 [(0, #[.int .i64 0, .slice none 0 0])] B N (.slice x2 y2 z2) rbw (idF l a)) (fun i _ => N - (intOf i).toNat)
 case atStart => exact ⟨0, by omega, rfl, hA⟩
 case round =>
  clear hA
  obtain ⟨a, ha, rfl, hA⟩ := hrel
  have c0 := hA.box.cell (j := 0) rfl
  by_cases hlt : a < N
  ·have d1 := hA.box.cell (j := 1) rfl
   obtain ⟨g2, cap2, e2, q2, _, n2, s0, s1, fz, q3⟩ := hA.ref.at_ (p := a) (q := a) hlt hlt
   cases e2
   go_wp2_with fail
   have A0 : (0 : Int) ≤ ((a : Nat) : Int) := by omega
   have A1 : ((a : Nat) : Int) < ((N : Nat) : Int) := by omega
   have hAd := hA.drew
   refine wp_region_held_drew (S := fun W => W.cell? ⟨B, 1, none⟩ = some (.slice (some ⟨g2, 0, none⟩) N z2) ∧ W.cell? ⟨g2, a, none⟩ = some (hdr N (rbw a))) (by kernel_rfl) ⟨d1, s0⟩ (fun hHeld => ?_)
   clear hA s0 s1 d1 c0 fz
   generalize wr.drew = W1 at *
   refine tk 0 rfl ?_; simp only [zz]
   refine tk 1 rfl ?_; simp only [zz]
   refine tk 2 rfl ?_; simp only [zz]
   refine tk 3 rfl ?_; simp only [zz]
   refine tk 4 rfl ?_; simp only [zz]
   refine tk 5 rfl ?_; simp only [zz]
   refine tk 6 rfl ?_; simp only [zz]
   refine tk 7 rfl ?_; simp only [zz]
   refine wpAnyH_ready (rs := [8]) (by kernel_rfl) (by simp) ?_
   refine rdy rfl (fun K hK => ?_) AllReadyH.nil
   simp only [zw]
   go_simp
   refine (Qtn v l a _ (hS0.below hAd.below)).mono ?_
   rintro e w5 ⟨rfl, hB5⟩
   have hA5 := hAd.step hB5
   have hA6 := hA5.put (p := a) (q := a) hlt hlt (l.getD a false)
   obtain ⟨_, _, e3, _, _, _, s3, s2, fz, _⟩ := hA5.ref.at_ (p := a) (q := a) hlt hlt
   cases e3
   refine hK.out _ _ ⟨hA5.box.cell rfl, s3⟩ (fun hHeld => ?_)
   clear hK K hAd hB5 s3
   try simp only [zz]
   refine tk 9 rfl ?_; simp only [zz]
   refine wpAnyH_ready (rs := [10]) (by kernel_rfl) (by simp) ?_
   refine rdy rfl (fun K hK => ?_) AllReadyH.nil
   simp only [zw]
   go_simp
   obtain ⟨_, _, e3, _, _, _, s3, _, _, _⟩ := hA6.ref.at_ (p := a) (q := a) hlt hlt
   cases e3
   refine hK.out _ _ ⟨hA6.box.cell rfl, s3⟩ (fun hHeld => ?_)
   clear hK K hHeld s3
   refine wpAnyH_done (by kernel_rfl) ?_ _
   try simp only [zz]
   have hA7 := hA6.congr (G := idF l (a + 1)) (fun p q _ _ => QC2 l a p q)
   clear hA6 s2 fz
   go_wp2_with fail
   refine ⟨⟨a + 1, by omega, by go_num, hA7⟩, by simp [intOf]; omega⟩
  ·have e : N = a := by omega
   subst e
   have b1 := hA.box.cell (j := 1) rfl
   have hr := hA.fst
   rw [Nat.add_zero] at hr
   have d0 := hr.cell (j := 0) rfl
   have d1 := hr.cell (j := 1) rfl
   have f0 := hr.frozen 0
   have f1 := hr.frozen 1
   go_wp2_with fail
   have hres := (hr.set 0 (.int .i64 ((N : Nat) : Int))).set 1 (.slice x2 y2 z2)
   simp only [List.setIfInBounds_toArray, List.set_cons_zero, List.set_cons_succ] at hres
   (try simp only [Exit.inBlock, Exit.then])
   refine bodyPost_ret (Qbq rfl rfl hres) rfl ?_
   obtain ⟨hA1, hB1⟩ := hA.answer (r := 0) (by omega)
   rw [Nat.add_zero] at hA1 hB1
   first | exact ⟨_, rbw, rfl, hA1, hB1⟩ | exact ⟨_, rfl, ⟨rbw, hA1⟩, hB1⟩
theorem Qmo (lo N : Nat) (hN : N ≤ 256) (x : Option Addr) (y z : Nat) (rb : Nat → Nat) (F : Nat → Nat → Bool) (w : World) (h : RefM lo w (.slice x y z) N N rb F) :
  Calls Tryz.prog 102 #[.agg #[.int .i64 ((N : Nat) : Int), .slice x y z]] w fun e w' => ∃ M rb', e = .returned (.agg #[.int .i64 ((N : Nat) : Int), M]) ∧ RefM w.heap.size w' M N N rb' (fun p q => F q p) ∧ Below w.heap.size w w' := by
 go_enter Tryz.func102, Tryz.ntmps102
 go_wp2_with fail
 refine (Qc7 N hN _).mono ?_
 rintro e w1 ⟨M, rbw, rfl, hRM, hB1⟩
 obtain ⟨x2, y2, z2, rfl⟩ := hRM.slice
 have hA : MkAt w (w1.alloc (.cells #[.int .i64 ((N : Nat) : Int), .slice x2 y2 z2] 51)) 2 [(0, #[.int .i64 ((N : Nat) : Int), .slice x y z]), (1, #[.int .i64 0, .slice none 0 0])] w1.heap.size N (.slice x2 y2 z2) rbw (fun p q => Qam F (fun _ _ => false) N 0 0 q p) := by
  refine MkAt.begin (((Below.refl _ w).alloc (Nat.le_refl _) _).alloc (by simp) _) (by simp) ?_ (hRM.congr fun p q hp hq => ?_) hB1
  ·intro x hx
   simp only [List.mem_cons, List.not_mem_nil, or_false] at hx
   rcases hx with rfl | rfl
   ·exact ⟨by omega, (Blk.new w _ _).alloc _⟩
   ·exact ⟨by omega, Blk.new2 w _ _ _⟩
  ·rw [Qc6]
 clear hRM hB1
 go_wp2_with fail
 generalize w1.heap.size = B at *
 go_loopw [4] (fun i wr => ∃ a, a ≤ N ∧ i = .int .i64 ((a : Nat) : Int) ∧ MkAt w wr 2 [(0, #[.int .i64 ((N : Nat) : Int), .slice x y z]), (1, #[.int .i64 0, .slice none 0 0])] B N (.slice x2 y2 z2) rbw ((fun (a b : Nat) => fun p q => Qam F (fun _ _ => false) N a b q p) a 0)) (fun i _ => N - (intOf i).toNat)
 case atStart => exact ⟨0, by omega, rfl, hA⟩
 case round =>
  clear hA
  obtain ⟨a, ha, rfl, hA⟩ := hrel
  (try dsimp only at hA)
  have c0 := hA.box.cell (j := 0) rfl
  by_cases hlt : a < N
  ·go_wp2_with fail
   clear c0
   go_loopw [5] (fun i wr => ∃ b, b ≤ N ∧ i = .int .i64 ((b : Nat) : Int) ∧ MkAt w wr 2 [(0, #[.int .i64 ((N : Nat) : Int), .slice x y z]), (1, #[.int .i64 0, .slice none 0 0])] B N (.slice x2 y2 z2) rbw ((fun (a b : Nat) => fun p q => Qam F (fun _ _ => false) N a b q p) a b)) (fun i _ => N - (intOf i).toNat)
   case atStart => exact ⟨0, by omega, rfl, hA⟩
   case round =>
    clear hA
    obtain ⟨b, hb, rfl, hA⟩ := hrel
    (try dsimp only at hA)
    have c0 := hA.box.cell (j := 0) rfl
    by_cases hlt2 : b < N
    ·skip
     have c1 := hA.fst.cell (j := 1) rfl
     have d1 := hA.box.cell (j := 1) rfl
     obtain ⟨g1, cap1, e1, q1, _, _, r0, r1, _, _⟩ := (h.below hA.below).at_ hlt hlt2
     obtain ⟨g2, cap2, e2, q2, _, n2, s0, s1, fz, q3⟩ := hA.ref.at_ (p := b) (q := a) (by omega) (by omega)
     cases e1
     cases e2
     have hA2 := (hA.drew.put (p := b) (q := a) (by omega) (by omega) (F a b)).congr (G := fun p q => Qam F (fun _ _ => false) N a (b + 1) q p) (fun p q _ _ => congrFun (congrFun (Qwf F (fun _ _ => false)) p) q)
     rw [Nat.add_zero] at c1
     go_wp2_with fail
     go_region
     all_goals
      go_wp2_with fail
      refine ⟨⟨b + 1, by omega, by go_num, hA2⟩, by simp [intOf]; omega⟩
    ·have e : N = b := by omega
     subst e
     rw [show (fun p q => Qam F (fun _ _ => false) N a N q p) = (fun p q => Qam F (fun _ _ => false) N (a + 1) 0 q p) by rw [Qdn]] at hA
     go_wp2_with fail
     refine ⟨⟨a + 1, by omega, by go_num, hA⟩, by simp [intOf]; omega⟩
  ·have e : N = a := by omega
   subst e
   have hA := hA.congr (G := fun p q => F q p) (fun p q hp hq => by exact Qft hq hp)
   have b0 := hA.box.cell (j := 0) rfl
   have b1 := hA.box.cell (j := 1) rfl
   have hr := hA.snd
   have d0 := hr.cell (j := 0) rfl
   have d1 := hr.cell (j := 1) rfl
   have f0 := hr.frozen 0
   have f1 := hr.frozen 1
   go_wp2_with fail
   have hres := (hr.set 0 (.int .i64 ((N : Nat) : Int))).set 1 (.slice x2 y2 z2)
   simp only [List.setIfInBounds_toArray, List.set_cons_zero, List.set_cons_succ] at hres
   (try simp only [Exit.inBlock, Exit.then])
   refine bodyPost_ret (Qbq rfl rfl hres) rfl ?_
   obtain ⟨hA1, hB1⟩ := hA.answer (r := 1) (by omega)
   first | exact ⟨_, rbw, rfl, hA1, hB1⟩ | exact ⟨_, rfl, ⟨rbw, hA1⟩, hB1⟩
end Go.Proofs.YtdkogbfamdnheaaGreatDoor
