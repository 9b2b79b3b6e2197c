/- sextantlaw10's is: a relation of the program is the document's. (R8R's text, with stage 10's words.) -/
import Derived.Test.YtlpffpfkapbepaaGreatDoorJ21
import Derived.Test.YtlpffpfkapbepaaGreatDoorJ34
import Derived.Test.YtlpffpfkapbepaaGreatDoorJ35
import Derived.Test.YtlpffpfkapbepaaGreatDoorJ24
import Derived.Test.YtlpffpfkapbepaaGreatDoorJ23
namespace Go.Proofs.YtlpffpfkapbepaaGreatDoor
open Go.RowKit Go.Shelf Sx
set_option maxRecDepth 100000
set_option maxHeartbeats 16000000
set_option linter.unusedSimpArgs false
set_option linter.unusedVariables false
theorem Qpb {w : World} {base : Nat} {v : Value} {l : List (Nat × Nat)} (h : w.ownsRow base 34 2 v l.length (Qcx l)) (hl : l.length ≤ 9223372036854775807) : PArg w v (l.map (fun x => (((x.1 : Nat) : Int), ((x.2 : Nat) : Int)))) := by
 rcases Qq5 h with ⟨rfl, rfl⟩ | ⟨s, cap, rfl, _, hp⟩
 ·exact .inl ⟨_, _, rfl, rfl⟩
 ·refine .inr ⟨s, 0, cap, by simp, ?_, by simpa using hl⟩
  refine ⟨hp.lt, fun i x hx => ?_, fun i x hx => ?_⟩
  ·rw [List.getElem?_map] at hx
   obtain ⟨y, hy, rfl⟩ := Option.map_eq_some_iff.1 hx
   have := hp.fst i y hy
   simpa using this
  ·rw [List.getElem?_map] at hx
   obtain ⟨y, hy, rfl⟩ := Option.map_eq_some_iff.1 hx
   have := hp.snd i y hy
   simpa using this
theorem Qpz (u v : Value) (l : List (Int × Int)) (w : World) (h1 : PArg w u l) (h2 : PArg w v l) : Calls Tryz.prog 36 #[u, v] w fun r w' => r = .returned (.bool true) ∧ Below w.heap.size w w' :=
 (Qis u v l l w h1 h2).mono fun e w' h => ⟨by rw [h.1]; simp, h.2⟩
theorem Qtk {n : Nat} {F F' : Nat → Nat → Bool} {L : List Nat} {b c lo : Nat} {M : Value} {rb : Nat → Nat} (w : World) (hr : IsRel w b c L) (ht : TwR n F L) (hn : n ≤ 256) (hM : RefM lo w M n n rb F') (hFF : ∀ p q, p < n → q < n → F' p q = F p q) (hT : Tab w) :
  Calls Tryz.prog 63 #[pv b, .agg #[.int .i64 ((n : Nat) : Int), M]] w fun e w' => e = .returned (.bool true) ∧ Below w.heap.size w w' := by
 obtain ⟨x, y, z, rfl⟩ := hM.slice
 have HL : Hid (L.length = n) := ht.len
 have HP : Hid (Qeu L = Qc7 n F n 0) := Qww hn (Qmc ht hr)
 have HM : Hid (RefM lo w (.slice x y z) n n rb F) := hM.congr hFF
 have HPL : Hid ((Qc7 n F n 0).length ≤ 9223372036854775807) := by rw [← HP.out]; unfold Qeu; have := Qjq L L.length; have := HL.out; rw [Hid]; omega
 have HR := Qa hr
 have HT := Qa hT
 have hB0 : Below w.heap.size w (w.alloc (.cells #[.int .i64 ((n : Nat) : Int), .slice x y z] 52)) := (Below.refl _ _).alloc (Nat.le_refl _) _
 have hb0 := Blk.new w 52 #[.int .i64 ((n : Nat) : Int), .slice x y z]
 clear hr ht hM hFF hT
 go_enter Tryz.func63, Tryz.ntmps63
 go_upto_region 1 with fail
 have HB0 := Qa hB0
 have HG0 := Qa hb0
 generalize w.alloc (.cells #[.int .i64 ((n : Nat) : Int), .slice x y z] 52) = W0 at *
 clear hB0 hb0
 have HZ : Hid (∀ W, Below W0.heap.size W0 W → W.cell? ⟨w.heap.size, 0, none⟩ = some (.int .i64 ((n : Nat) : Int)) ∧ W.cell? ⟨w.heap.size, 1, none⟩ = some (.slice x y z)) := fun W hW => ⟨(HG0.out.of_below hW).cell rfl, (HG0.out.of_below hW).cell rfl⟩
 have HBX : Hid (∀ W, Below W0.heap.size W0 W → Below w.heap.size w W) := fun W hW => Qaa HB0.out HB0.out.size hW
 have hXd : Below W0.heap.size W0 W0.drew := (Below.refl _ _).drew
 refine wp_region_held_drew (S := fun W => W.cell? ⟨w.heap.size, 0, none⟩ = some (.int .i64 ((n : Nat) : Int)) ∧ W.cell? ⟨w.heap.size, 1, none⟩ = some (.slice x y z)) (by kernel_rfl) (HZ.out _ hXd) (fun hHeld => ?_)
 refine tk 0 rfl ?_; simp only [zz]
 refine tk 1 rfl ?_; simp only [zz]
 refine tk 2 rfl ?_; simp only [zz]
 refine tk 3 rfl ?_; simp only [zz]
 refine tk 5 rfl ?_; simp only [zz]
 refine tk 6 rfl ?_; simp only [zz]
 refine wpAnyH_ready (rs := [4]) (by kernel_rfl) (by simp) ?_
 refine AllReadyH.cons rfl (fun K hK => ?_) AllReadyH.nil
 simp only [z1, z2, z3]
 go_simp
 have D := Qh3 b c L _ (HR.out.below (HBX.out _ hXd))
 rw [HL.out] at D
 refine D.mono ?_
 rintro e a1 ⟨rfl, rfl⟩
 clear D
 refine hK.out _ _ (HZ.out _ hXd) (fun hHeld => ?_)
 clear hK K
 try simp only [zz]
 refine tk 7 rfl ?_; simp only [zz]
 refine tk 8 rfl ?_; simp only [zz]
 refine tk 9 rfl ?_; simp only [zz]
 refine tk 10 rfl ?_; simp only [zz]
 refine tk 12 rfl ?_; simp only [zz]
 refine wpAnyH_ready (rs := [11]) (by kernel_rfl) (by simp) ?_
 refine AllReadyH.cons rfl (fun K hK => ?_) AllReadyH.nil
 simp only [z1, z2, z3]
 go_simp
 have D := Ql b c L _ (HR.out.below (HBX.out _ hXd)) (HT.out.step' (HBX.out _ hXd))
 rw [HP.out] at D
 refine D.mono ?_
 rintro e a2 ⟨u1, rfl, hu1, hBa2⟩
 have hXa2 : Below W0.heap.size W0 a2 := Qaa hXd hXd.size hBa2
 have HU1 := Qa (Qpb hu1 HPL.out)
 clear D hu1
 refine hK.out _ _ (HZ.out _ hXa2) (fun hHeld => ?_)
 clear hK K
 try simp only [zz]
 refine wpAnyH_ready (rs := [13]) (by kernel_rfl) (by simp) ?_
 refine AllReadyH.cons rfl (fun K hK => ?_) AllReadyH.nil
 simp only [z1, z2, z3]
 go_simp
 have D := Qn4 lo n hn x y z rb F _ (HM.out.below (HBX.out _ hXa2))
 refine D.mono ?_
 rintro e a3 ⟨u2, rfl, hu2, hBa3⟩
 have hXa3 : Below W0.heap.size W0 a3 := Qaa hXa2 hXa2.size hBa3
 have HU2 := Qa (Qpb hu2 HPL.out)
 have HU3 := Qa (HU1.out.below hBa3)
 clear D hu2
 refine hK.out _ _ (HZ.out _ hXa3) (fun hHeld => ?_)
 clear hK K
 try simp only [zz]
 refine wpAnyH_ready (rs := [14]) (by kernel_rfl) (by simp) ?_
 refine AllReadyH.cons rfl (fun K hK => ?_) AllReadyH.nil
 simp only [z1, z2, z3]
 go_simp
 have D := Qpz u1 u2 ((Qc7 n F n 0).map (fun x => (((x.1 : Nat) : Int), ((x.2 : Nat) : Int)))) _ HU3.out HU2.out
 refine D.mono ?_
 rintro e a4 ⟨rfl, hBa4⟩
 have hXa4 : Below W0.heap.size W0 a4 := Qaa hXa3 hXa3.size hBa4
 clear D
 refine hK.out _ _ (HZ.out _ hXa4) (fun hHeld => ?_)
 clear hK K
 try simp only [zz]
 refine tk 15 rfl ?_; simp only [zz]
 refine tk 16 rfl ?_; simp only [zz]
 refine wpAnyH_done (by kernel_rfl) ?_ _
 go_wp2_with fail
 go_ret
 exact ⟨rfl, HBX.out _ hXa4⟩
end Go.Proofs.YtlpffpfkapbepaaGreatDoor
