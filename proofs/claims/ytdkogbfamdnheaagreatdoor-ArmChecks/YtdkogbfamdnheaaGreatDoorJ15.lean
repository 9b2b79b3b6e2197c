import Derived.Test.YtdkogbfamdnheaaGreatDoorJ10
import Derived.Deep.LoopGhost
namespace Go.Proofs.YtdkogbfamdnheaaGreatDoor
open Go.RowKit Go.Shelf Sx
set_option maxRecDepth 100000
set_option maxHeartbeats 16000000
set_option linter.unusedSimpArgs false
set_option linter.unusedVariables false
def Qc6 (L Bk : List Nat) (start : Nat) : Nat → Nat → List Nat → Prop
 | _, near, [] => near = 0
 | seen, near, x :: rest => near ≠ 0 ∧ x = near ∧ (gr L start &&& near = 0 → Qc6 L Bk start (seen ||| near) (Qcd (Qal Bk (Qae near)) (seen ||| near)) rest) ∧ (gr L start &&& near ≠ 0 → rest = [])
def Qgw (l : List Nat) : List Value := l.flatMap (fun R => (rcs R).toList)
theorem Qw7 (l : List Nat) (R : Nat) : Qgw (l ++ [R]) = Qgw l ++ [.int .u64 ((wd R 0 : Nat) : Int), .int .u64 ((wd R 1 : Nat) : Int), .int .u64 ((wd R 2 : Nat) : Int), .int .u64 ((wd R 3 : Nat) : Int)] := by simp [Qgw, rcs]
def cnt (n x : Nat) : Nat := (Qdg n x).length
theorem Qm1 (l : List Nat) (p q : Nat → Bool) (h : ∀ x ∈ l, ¬ (p x = true ∧ q x = true)) : (l.filter (fun x => p x || q x)).length = (l.filter p).length + (l.filter q).length := by
 induction l with
 | nil => rfl
 | cons x l ih =>
  have ih := ih (fun y hy => h y (List.mem_cons_of_mem _ hy))
  have hx := h x sW
  simp only [List.filter_cons]
  cases hp : p x <;> cases hq : q x
  ·simp [ih]
  ·simp [ih]; omega
  ·simp [ih]; omega
  ·exact absurd ⟨hp, hq⟩ hx
theorem Qzg {n x y : Nat} (h : x &&& y = 0) : cnt n (x ||| y) = cnt n x + cnt n y := by
 unfold cnt Qdg
 rw [← Qm1 _ _ _ (fun i _ => ?_)]
 ·congr 2
  funext i
  exact Nat.testBit_or x y i
 ·have := congrArg (fun z => z.testBit i) h
  simp at this
  rintro ⟨h1, h2⟩
  rw [this h1] at h2
  cases h2
theorem Qv6 {n y : Nat} (h : y < 2 ^ n) (h0 : y ≠ 0) : 0 < cnt n y := by
 obtain ⟨i, hi⟩ := Nat.exists_testBit_of_ne_zero h0
 have hin : i < n := by
  apply Nat.lt_of_not_le
  intro hle
  rw [Qc2 h hle] at hi
  cases hi
 exact List.length_pos_of_mem (Qqf.2 ⟨hin, hi⟩)
theorem Qoc (n x : Nat) : cnt n x ≤ n := by
 have := List.length_filter_le x.testBit (List.range n)
 simpa [cnt, Qdg] using this
theorem Qpa (x s : Nat) : Qcd x s &&& s = 0 := by
 apply Nat.eq_of_testBit_eq
 intro i
 rw [Nat.testBit_and, Qby, Nat.zero_testBit]
 cases x.testBit i <;> cases s.testBit i <;> rfl
theorem Qkx {x y : Nat} (h : x &&& y = 0) : y &&& x = 0 := by rw [Nat.and_comm]; exact h
theorem Qk {w : World} {b b' : Nat} {e : TypeId} {size : Nat} {v : Value} {n : Nat} {xs : List Value} (h : w.ownsRow b e size v n xs) (hb : b' ≤ b) : w.ownsRow b' e size v n xs := by
 refine ⟨h.1, ?_⟩
 rcases h.2 with h2 | ⟨g, cap, cur, h3, h4, h5⟩
 ·exact .inl h2
 ·exact .inr ⟨g, cap, cur, h3, oW, h5⟩
theorem Qzh (w : World) (a b c d : Value) (t : TypeId) : ∀ j u, [a, b, c, d][j]? = some u → (w.alloc (.cells #[a, b, c, d] t)).cell? ((⟨w.heap.size, 0, none⟩ : Addr).add j) = some u := by
 intro j u hj
 have h := Blk.new w t #[a, b, c, d]
 match j, hj with
 | 0, hj => simp at hj; subst hj; exact h.cell (j := 0) rfl
 | 1, hj => simp at hj; subst hj; exact h.cell (j := 1) rfl
 | 2, hj => simp at hj; subst hj; exact h.cell (j := 2) rfl
 | 3, hj => simp at hj; subst hj; exact h.cell (j := 3) rfl
 | j + 4, hj => simp at hj
theorem Qsk (A : List Nat) (p : Nat) (l : List Nat) : (Qe3 A p l).length = A.length := by
 unfold Qe3
 induction l generalizing A with
 | nil => rfl
 | cons q l ih => rw [List.foldl_cons, ih, Qml]
theorem Quj (L : List Nat) (k : Nat) : (Qhc L k).length = L.length := by
 induction k with
 | zero => simp [Qhc]
 | succ k ih => rw [Qio, Qsk, ih]
theorem Qqb {w w' : World} {b : Nat} {e : TypeId} {size : Nat} {v : Value} {n : Nat} {xs : List Value} (h : w.ownsRow b e size v n xs) (hb : Below w.heap.size w w') : w'.ownsRow b e size v n xs := by
 refine ⟨h.1, ?_⟩
 rcases h.2 with h2 | ⟨g, cap, cur, h3, h4, h5, h6⟩
 ·exact .inl h2
 ·exact .inr ⟨g, cap, cur, h3, h4, (hb.block g (Array.getElem?_eq_some_iff.1 h5).1).trans h5, h6⟩
theorem Blk.grown {w w' : World} {b : Nat} {t : TypeId} {cs : Array Value} {row : Option Nat} (h : Blk w b t cs) (hg : w.grownBy w' row) (hne : some b ≠ row) : Blk w' b t cs := (hg.block b h.lt hne).trans h
theorem Qds {w : World} {base : Nat} {e : TypeId} {size : Nat} {v : Value} {n : Nat} {xs : List Value} (h : w.ownsRow base e size v n xs) {k : Nat} (hk : k < base) : some k ≠ v.ownBlock := by
 rcases h.2 with ⟨rfl, _⟩ | ⟨g, cap, cur, rfl, hg, _⟩
 ·simp [Value.ownBlock]
 ·intro e'
  simp [Value.ownBlock] at e'
  omega
theorem QE3 {w : World} {base : Nat} {e : TypeId} {size : Nat} {v : Value} {n : Nat} {xs : List Value} (h : w.ownsRow base e size v n xs) {k : Nat} (hk : v.ownBlock = some k) : base ≤ k := by
 apply Nat.le_of_not_lt
 intro hlt
 exact Qds h hlt hk.symm
theorem Qd5 {w : World} {base : Nat} {e : TypeId} {size : Nat} {v : Value} {n : Nat} {xs : List Value} (h : w.ownsRow base e size v n xs) {a : Addr} (hne : some a.block ≠ v.ownBlock) (u : Value) : (w.setCell a u).ownsRow base e size v n xs := by
 refine ⟨h.1, ?_⟩
 rcases h.2 with h2 | ⟨g, cap, cur, rfl, h4, h5, h6⟩
 ·exact .inl h2
 ·refine .inr ⟨g, cap, cur, rfl, h4, (Below.heap_setCell _ _ _ _ ?_).trans h5, h6⟩
  intro e'
  exact hne (by simp [Value.ownBlock, e'])
structure LS (base sB b c b2 c2 : Nat) (L : List Nat) (seen near N : Nat) (v : Value) (d : List Nat) (wr : World) : Prop where
 nearB : Blk wr N 102 (rcs near)
 seenB : Blk wr sB 102 (rcs seen)
 own : wr.ownsRow base 102 4 v d.length (Qgw d)
 ne : some N ≠ v.ownBlock
 rel : IsRel wr b c L
 back : IsRel wr b2 c2 (Qbm L)
 tab : Tab wr
 hN : base ≤ N
 low : sB < base ∧ b < base ∧ c < base ∧ b2 < base ∧ c2 < base ∧ 0 < base ∧ 0 < sB
theorem LS.step {base sB b c b2 c2 : Nat} {L : List Nat} {seen near N : Nat} {v : Value} {d : List Nat} {wr w' : World} (h : LS base sB b c b2 c2 L seen near N v d wr) (hb : Below wr.heap.size wr w') : LS base sB b c b2 c2 L seen near N v d w' :=
 ⟨h.nearB.of_below hb, h.seenB.of_below hb, Qqb h.own hb, h.ne, h.rel.below hb, h.back.below hb, h.tab.step hb, h.hN, h.low⟩
theorem LS.drew {base sB b c b2 c2 : Nat} {L : List Nat} {seen near N : Nat} {v : Value} {d : List Nat} {wr : World} (h : LS base sB b c b2 c2 L seen near N v d wr) : LS base sB b c b2 c2 L seen near N v d wr.drew :=
 h.step ⟨rfl, rfl, rfl, Nat.le_refl _, fun _ _ => rfl⟩
theorem LS.alloc {base sB b c b2 c2 : Nat} {L : List Nat} {seen near N : Nat} {v : Value} {d : List Nat} {wr : World} (h : LS base sB b c b2 c2 L seen near N v d wr) (o : Obj) : LS base sB b c b2 c2 L seen near N v d (wr.alloc o) :=
 h.step (bW.alloc nW _)
theorem LS.app {base sB b c b2 c2 : Nat} {L : List Nat} {seen near N : Nat} {v v' : Value} {d : List Nat} {wr w1 : World} (h : LS base sB b c b2 c2 L seen near N v d wr)
  (hown : w1.ownsRow base 102 4 v' (d.length + 1) (Qgw d ++ [.int .u64 ((wd near 0 : Nat) : Int), .int .u64 ((wd near 1 : Nat) : Int), .int .u64 ((wd near 2 : Nat) : Int), .int .u64 ((wd near 3 : Nat) : Int)])) (hgrow : wr.grownBy w1 v.ownBlock)
  (hat : v'.ownBlock = v.ownBlock ∨ v'.ownBlock = some wr.heap.size) : LS base sB b c b2 c2 L seen near N v' (d ++ [near]) w1 := by
 obtain ⟨l1, l2, l3, l4, l5, l6, l7⟩ := h.low
 refine ⟨h.nearB.grown hgrow h.ne, h.seenB.grown hgrow (Qds h.own l1), ?_, ?_, ?_, ?_, ?_, h.hN, h.low⟩
 ·rw [List.length_append, Qw7]; exact hown
 ·rcases hat with e | e
  ·rw [e]; exact h.ne
  ·rw [e]; intro e'; have := h.nearB.lt; simp at e'; omega
 ·exact ⟨h.rel.ne, h.rel.head.grown hgrow (Qds h.own l2), h.rel.rows.grown hgrow (Qds h.own l3), h.rel.len, h.rel.low⟩
 ·exact ⟨h.back.ne, h.back.head.grown hgrow (Qds h.own l4), h.back.rows.grown hgrow (Qds h.own l5), h.back.len, h.back.low⟩
 ·refine h.tab.below (n := 1) ⟨hgrow.os, hgrow.tape, hgrow.output, hgrow.size, fun k hk => hgrow.block k (by have := h.tab.pos; omega) ?_⟩ oW
  obtain rfl : k = 0 := by omega
  exact Qds h.own l6
theorem LS.setSeen {base sB b c b2 c2 : Nat} {L : List Nat} {seen near N : Nat} {v : Value} {d : List Nat} {wr : World} (h : LS base sB b c b2 c2 L seen near N v d wr) (hd : sB ≠ b ∧ sB ≠ c ∧ sB ≠ b2 ∧ sB ≠ c2) (S : Nat) :
  LS base sB b c b2 c2 L S near N v d ((((wr.setCell ⟨sB, 0, none⟩ (.int .u64 ((wd S 0 : Nat) : Int))).setCell ⟨sB, 1, none⟩ (.int .u64 ((wd S 1 : Nat) : Int))).setCell ⟨sB, 2, none⟩ (.int .u64 ((wd S 2 : Nat) : Int))).setCell ⟨sB, 3, none⟩ (.int .u64 ((wd S 3 : Nat) : Int))) := by
 obtain ⟨l1, l2, l3, l4, l5, l6, l7⟩ := h.low
 have hn := h.hN
 exact ⟨h.nearB.otherRow oW _ _ _ _ _ _ _ _, h.seenB.setRow S, Qd5 (Qd5 (Qd5 (Qd5 h.own (Qds h.own l1) _) (Qds h.own l1) _) (Qds h.own l1) _) (Qds h.own l1) _, h.ne,
  h.rel.otherRow oW oW _ _ _ _ _ _ _ _, h.back.otherRow oW oW _ _ _ _ _ _ _ _, h.tab.below (n := 1) (Qbj bW oW _ _ _ _ _ _ _ _) oW, h.hN, h.low⟩
theorem LS.renew {base sB b c b2 c2 : Nat} {L : List Nat} {seen near N : Nat} {v : Value} {d : List Nat} {wr : World} (h : LS base sB b c b2 c2 L seen near N v d wr) : LS base sB b c b2 c2 L seen near wr.heap.size v d (wr.alloc (.cells (rcs near) 102)) := by
 have h' := h.alloc (.cells (rcs near) 102)
 refine ⟨Blk.new _ _ _, h'.seenB, h'.own, ?_, h'.rel, h'.back, h'.tab, ?_, h.low⟩
 ·rcases h.own.2 with ⟨rfl, _⟩ | ⟨g, cap, cur, rfl, hg, hgb, _⟩
  ·simp [Value.ownBlock]
  ·intro e'
   have := (Array.getElem?_eq_some_iff.1 hgb).1
   simp [Value.ownBlock] at e'
   omega
 ·have := h.nearB.lt; have := h.hN; omega
theorem LS.setNear {base sB b c b2 c2 : Nat} {L : List Nat} {seen near N : Nat} {v : Value} {d : List Nat} {wr : World} (h : LS base sB b c b2 c2 L seen near N v d wr) (S : Nat) :
  LS base sB b c b2 c2 L seen S N v d ((((wr.setCell ⟨N, 0, none⟩ (.int .u64 ((wd S 0 : Nat) : Int))).setCell ⟨N, 1, none⟩ (.int .u64 ((wd S 1 : Nat) : Int))).setCell ⟨N, 2, none⟩ (.int .u64 ((wd S 2 : Nat) : Int))).setCell ⟨N, 3, none⟩ (.int .u64 ((wd S 3 : Nat) : Int))) := by
 obtain ⟨l1, l2, l3, l4, l5, l6, l7⟩ := h.low
 have hn := h.hN
 exact ⟨h.nearB.setRow S, h.seenB.otherRow oW _ _ _ _ _ _ _ _, Qd5 (Qd5 (Qd5 (Qd5 h.own h.ne _) h.ne _) h.ne _) h.ne _, h.ne,
  h.rel.otherRow oW oW _ _ _ _ _ _ _ _, h.back.otherRow oW oW _ _ _ _ _ _ _ _, h.tab.below (n := 1) (Qbj bW oW _ _ _ _ _ _ _ _) oW, h.hN, h.low⟩
theorem Qsl (b c : Nat) (L : List Nat) (start : Nat) (w : World) (h : IsRel w b c L) (hT : Tab w) (hst : start < L.length) :
  Calls Tryz.prog 171 #[pv b, .int .i64 start] w fun e w' => ∃ v out, e = .returned v ∧ w'.ownsRow w.heap.size 102 4 v out.length (Qgw out) ∧ Qc6 L (Qbm L) start 0 (Qa5 0 start true) out ∧ out.length ≤ 256 ∧ Below w.heap.size w w' := by
 have hl := h.len
 obtain ⟨i0, hi, hz0, hz1, hz2⟩ := info_parts Tryz.inforow
 go_enter Tryz.func171, Tryz.ntmps171
 go_wp2_with fail
 refine (Qkw b c L _ h hT).mono ?_
 rintro e w1 ⟨b2, c2, rfl, hM⟩
 go_wp2_with fail
 refine (Qhp 0 start true oW _).mono ?_
 rintro e w2 ⟨rfl, hB2⟩
 have hs1 : w1.heap.size + 1 ≤ w2.heap.size := by have := hB2.size; simpa using this
 have hw2 : Below w.heap.size w w2 := (hM.below.alloc hM.below.size _).trans (hB2.mono (by have := hM.below.size; simp; omega))
 have hsm := hM.below.size
 have hpos := hT.pos
 have hlt : b < w.heap.size ∧ c < w.heap.size := ⟨h.head.lt, h.rows.lt⟩
 have hlt2 : b2 < w1.heap.size ∧ c2 < w1.heap.size := ⟨hM.rel.head.lt, hM.rel.rows.lt⟩
 have hls : LS w2.heap.size w1.heap.size b c b2 c2 L 0 (Qa5 0 start true) w2.heap.size (.slice none 0 0) [] (w2.alloc (.cells (rcs (Qa5 0 start true)) 102)) := by
  refine ⟨Blk.new _ _ _, ?_, World.ownsRow_nil _ _ _ _, by simp [Value.ownBlock], (h.below hw2).alloc _, ?_, (hT.step hw2).alloc _, Nat.le_refl _, oW⟩
  ·rw [Qes]; exact ((Blk.new w1 _ _).of_below hB2).alloc _
  ·exact ((hM.rel.alloc _).below hB2).alloc _
 have HLow : Hid (Qa5 0 start true < 2 ^ L.length) := Qwh (Nat.two_pow_pos _) hst
 have HI : Hid (∀ R ∈ Qbm L, R < 2 ^ L.length) := fun R hR => by have := hM.rel.low R hR; rwa [show (Qbm L).length = L.length from Quj L L.length] at this
 clear hM hB2
 go_wp2_with fail
 go_loopg [7, 8] (L.length) (fun k v7 v8 wr => ∃ (seen near N : Nat) (d : List Nat), v8 = pv N ∧ LS w2.heap.size w1.heap.size b c b2 c2 L seen near N v7 d wr ∧ Below w.heap.size w wr ∧ Hid (near < 2 ^ L.length ∧ seen < 2 ^ L.length ∧ near &&& seen = 0 ∧ d.length ≤ cnt L.length seen ∧ cnt L.length seen + k = L.length ∧ ∀ rest, Qc6 L (Qbm L) start seen near rest → Qc6 L (Qbm L) start 0 (Qa5 0 start true) (d ++ rest)))
 case atStart =>
  refine ⟨0, Qa5 0 start true, w2.heap.size, [], rfl, hls, hw2.alloc hw2.size _, HLow.out, Nat.two_pow_pos _, by simp, by simp, ?_, fun rest hr => hr⟩
  simp [cnt, Qoe]
 case round =>
  clear hls
  obtain ⟨seen, near, N, d, rfl, hls, hB, HC⟩ := hrel
  obtain ⟨⟨n0, n1, n2, n3⟩, _, n5⟩ := hls.nearB.row
  have Hnl : Hid (near < 2 ^ 256) := Nat.lt_of_lt_of_le HC.out.1 (Nat.pow_le_pow_right oW hl)
  go_wp2_with fail
  refine (Qmi near Hnl _).mono ?_
  rintro e w3 ⟨rfl, hB3⟩
  have hls3 := hls.step hB3
  have hBw3 := Qaa hB hB.size hB3
  clear n0 n1 n2 n3 n5 hls hB3
  cases hz : (near == 0)
  ·have Hz : Hid (near ≠ 0) := by intro e; rw [e] at hz; cases hz
   clear hz
   have hdl : d.length ≤ 256 := by have := HC.out.2.2.2.1; have := Qoc L.length seen; omega
   obtain ⟨⟨n0, n1, n2, n3⟩, _, n5⟩ := hls3.nearB.row
   have ho := hls3.own
   go_wp2_with (at_builtin; refine wpList_append_own_at _ rfl _ _ 97 rfl w2.heap.size 102 i0 (.agg #[.int .u64 0, .int .u64 0, .int .u64 0, .int .u64 0]) 4 32 Tryz.underlying97 hi hz0 hz1 hz2 rfl dW u7 _ _ rfl (ho.alloc _) ⟨w3.heap.size, 0, none⟩ 1 1 [.int .u64 ((wd near 0 : Nat) : Int), .int .u64 ((wd near 1 : Nat) : Int), .int .u64 ((wd near 2 : Nat) : Int), .int .u64 ((wd near 3 : Nat) : Int)] rfl rfl (Qzh _ _ _ _ _ _) (by simp [Value.oneCell']) (by unfold maxLen; omega) oW (by have := hls3.nearB.lt; have := hls3.hN; simp; omega) ?_; intro v' w4 hown' hgrow _ hat)
   have hls4 := (hls3.alloc _).app hown' hgrow hat
   have hBw4 : Below w.heap.size w w4 := (hBw3.alloc hBw3.size _).grown hgrow (by have := hBw3.size; simp; omega) (fun k e => by have := QE3 ho e; omega)
   clear n0 n1 n2 n3 n5 ho hown' hgrow hat hls3 hBw3 hB
   obtain ⟨y, ⟨y0, y1, y2, y3⟩, _, q1, q2⟩ := hls4.rel.slots (Qb7 hst)
   obtain ⟨⟨n0, n1, n2, n3⟩, _, n5⟩ := hls4.nearB.row
   have Hand : Hid (gr L start &&& near < 2 ^ 256) := Qtt (Nat.lt_of_lt_of_le (h.gr_lt start) (Nat.pow_le_pow_right oW hl))
   go_region_held3 (fun w' => w'.cell? ⟨b, 0, none⟩ = some (.slice (some ⟨c, 0, none⟩) L.length L.length) ∧ w'.cell? ⟨c, start * 4, none⟩ = some (.int .u64 ((wd (gr L start) 0 : Nat) : Int)) ∧ w'.cell? ⟨c, start * 4 + 1, none⟩ = some (.int .u64 ((wd (gr L start) 1 : Nat) : Int)) ∧ w'.cell? ⟨c, start * 4 + 2, none⟩ = some (.int .u64 ((wd (gr L start) 2 : Nat) : Int)) ∧ w'.cell? ⟨c, start * 4 + 3, none⟩ = some (.int .u64 ((wd (gr L start) 3 : Nat) : Int)) ∧ w'.cell? ⟨N, 0, none⟩ = some (.int .u64 ((wd near 0 : Nat) : Int)) ∧ w'.cell? ⟨N, 1, none⟩ = some (.int .u64 ((wd near 1 : Nat) : Int)) ∧ w'.cell? ⟨N, 2, none⟩ = some (.int .u64 ((wd near 2 : Nat) : Int)) ∧ w'.cell? ⟨N, 3, none⟩ = some (.int .u64 ((wd near 3 : Nat) : Int))) (go_keep)
    (first | (go_at_call 157; refine (Qka (gr L start) near _).mono ?_; rintro e w5 ⟨rfl, hB5⟩; have hls5 := hls4.drew.step hB5; clear y y0 y1 y2 y3 n0 n1 n2 n3; obtain ⟨y, ⟨y0, y1, y2, y3⟩, _, q3, q4⟩ := hls5.rel.slots (Qb7 hst); obtain ⟨⟨n0, n1, n2, n3⟩, _, n6⟩ := hls5.nearB.row) | (go_at_call 112; refine (Qmi (gr L start &&& near) Hand _).mono ?_; rintro e w6 ⟨rfl, hB6⟩; have hls6 := hls5.step hB6; clear y y0 y1 y2 y3 n0 n1 n2 n3; obtain ⟨y, ⟨y0, y1, y2, y3⟩, _, q5, q6⟩ := hls6.rel.slots (Qb7 hst); obtain ⟨⟨n0, n1, n2, n3⟩, _, n7⟩ := hls6.nearB.row))
   have hBw6 : Below w.heap.size w w6 := Qaa (Qaa hBw4 hBw4.size (Qcq hB5)) (Nat.le_trans hBw4.size hB5.size) hB6
   clear hB5 hB6 hls4 hls5 hBw4 y y0 y1 y2 y3 q1 q2 q3 q4 n6 n5
   cases hh : (gr L start &&& near == 0)
   ·have Hh : Hid (gr L start &&& near ≠ 0) := by intro e; rw [e] at hh; cases hh
    go_wp2_with fail
    go_ret
    refine ⟨v', d ++ [near], rfl, Qk hls6.own oW, HC.out.2.2.2.2.2 [near] ⟨Hz.out, rfl, fun e => absurd e Hh.out, fun _ => rfl⟩, ?_, hBw6⟩
    have h1 := HC.out.2.2.2.1
    have h2 := Qoc L.length (seen ||| near)
    rw [Qzg (Qkx HC.out.2.2.1)] at h2
    have h3 := Qv6 HC.out.1 Hz.out
    simp; omega
   ·have Hh : Hid (gr L start &&& near = 0) := eq_of_beq hh
    obtain ⟨⟨s0, s1, s2, s3⟩, _, s5⟩ := hls6.seenB.row
    go_wp2_with fail
    refine (Qf7 seen near _ _ (by rw [Qjn]; exact Blk.new _ _ _)).mono ?_
    rintro e w7 ⟨rfl, hB7⟩
    have hls7 := (hls6.alloc _).step hB7
    have hBw7 : Below w.heap.size w w7 := Qaa (hBw6.alloc hBw6.size _) (by have := hBw6.size; simp; omega) hB7
    clear hB7 hls6 hBw6 n0 n1 n2 n3 n7 s0 s1 s2 s3 s5 q5 q6
    obtain ⟨⟨n0, n1, n2, n3⟩, _, n5⟩ := hls7.nearB.row
    obtain ⟨⟨s0, s1, s2, s3⟩, ⟨f0, f1, f2, f3⟩, s5⟩ := hls7.seenB.row
    have hNs : N ≠ w1.heap.size := by have := hls7.hN; omega
    go_wp2_with fail
    have hsz : ((((w7.setCell ⟨w1.heap.size, 0, none⟩ (.int .u64 ((wd (seen ||| near) 0 : Nat) : Int))).setCell ⟨w1.heap.size, 1, none⟩ (.int .u64 ((wd (seen ||| near) 1 : Nat) : Int))).setCell ⟨w1.heap.size, 2, none⟩ (.int .u64 ((wd (seen ||| near) 2 : Nat) : Int))).setCell ⟨w1.heap.size, 3, none⟩ (.int .u64 ((wd (seen ||| near) 3 : Nat) : Int))).heap.size = w7.heap.size := by simp [World.setCell]
    have hls8 := (hls7.setSeen oW (seen ||| near)).renew
    rw [hsz] at hls8
    obtain ⟨X, hX⟩ : ∃ X, ((((w7.setCell ⟨w1.heap.size, 0, none⟩ (.int .u64 ((wd (seen ||| near) 0 : Nat) : Int))).setCell ⟨w1.heap.size, 1, none⟩ (.int .u64 ((wd (seen ||| near) 1 : Nat) : Int))).setCell ⟨w1.heap.size, 2, none⟩ (.int .u64 ((wd (seen ||| near) 2 : Nat) : Int))).setCell ⟨w1.heap.size, 3, none⟩ (.int .u64 ((wd (seen ||| near) 3 : Nat) : Int))).alloc (.cells #[.int .u64 ((wd near 0 : Nat) : Int), .int .u64 ((wd near 1 : Nat) : Int), .int .u64 ((wd near 2 : Nat) : Int), .int .u64 ((wd near 3 : Nat) : Int)] 102) = X := ⟨_, rfl⟩
    have hls9 : LS w2.heap.size w1.heap.size b c b2 c2 L (seen ||| near) near w7.heap.size v' (d ++ [near]) X := by rw [← hX]; exact hls8
    have hBX : Below w.heap.size w X := by rw [← hX]; exact (Qbj hBw7 oW _ _ _ _ _ _ _ _).alloc (by rw [hsz]; exact hBw7.size) _
    rw [hX]
    clear hX hls8 hsz hls7 hBw7 n0 n1 n2 n3 n5 s0 s1 s2 s3 s5 f0 f1 f2 f3
    obtain ⟨⟨n0, n1, n2, n3⟩, _, n5⟩ := hls9.nearB.row
    obtain ⟨⟨s0, s1, s2, s3⟩, _, s5⟩ := hls9.seenB.row
    go_region_with (first | (go_at_call 154; refine (Qj7 b2 c2 (Qbm L) near _ hls9.drew.back hls9.drew.tab).mono ?_; rintro e w8 ⟨rfl, hB8⟩; have hlsA := hls9.drew.step hB8; clear n0 n1 n2 n3 s0 s1 s2 s3; obtain ⟨⟨s0, s1, s2, s3⟩, _, s6⟩ := hlsA.seenB.row) | (go_at_call 156; refine (Qk0 (Qal (Qbm L) (Qae near)) (seen ||| near) _).mono ?_; rintro e w9 ⟨rfl, hB9⟩; have hlsB := hlsA.step hB9; clear s0 s1 s2 s3; obtain ⟨⟨n0, n1, n2, n3⟩, ⟨f0, f1, f2, f3⟩, n6⟩ := hlsB.nearB.row))
    all_goals
     go_wp2_with fail
     have hBw9 : Below w.heap.size w w9 := Qaa (Qaa hBX hBX.size (Qcq hB8)) (Nat.le_trans hBX.size hB8.size) hB9
     have hc1 := HC.out.2.2.2.1
     have hc2 := HC.out.2.2.2.2.1
     have hc3 := Qv6 HC.out.1 Hz.out
     have hc4 := Qzg (n := L.length) (Qkx HC.out.2.2.1)
     have hc5 := Qoc L.length (seen ||| near)
     go_roundg (L.length - cnt L.length (seen ||| near))
     case measure => omega
     case rel =>
      refine ⟨seen ||| near, Qcd (Qal (Qbm L) (Qae near)) (seen ||| near), w7.heap.size, d ++ [near], rfl, hlsB.setNear _, Qbj hBw9 ?_ _ _ _ _ _ _ _ _, Qtu (Qi9 HI.out _), Qrr HC.out.2.1 HC.out.1, Qpa _ _, by simp; omega, oW, fun rest hr => ?_⟩
      ·have := hls9.hN; have := hw2.size; omega
      ·have := HC.out.2.2.2.2.2 (near :: rest) ⟨Hz.out, rfl, fun _ => hr, fun e => absurd Hh.out e⟩
       simpa using this
  ·have Hz : Hid (near = 0) := eq_of_beq hz
   go_wp2_with fail
   go_ret
   refine ⟨u7, d, rfl, Qk hls3.own oW, ?_, by have := HC.out.2.2.2.1; have := Qoc L.length seen; omega, hBw3⟩
   have := HC.out.2.2.2.2.2 [] Hz.out
   rwa [List.append_nil] at this
attribute [local go_sem] Oper.semAt_some
def Qbu (L : List Nat) : Nat → List Nat → List Nat
 | _, [] => []
 | last, X :: rest => match Qae (gr L last &&& X) with
  | [] => Qbu L last rest
  | q :: _ => q :: Qbu L q rest
def Qbz (ly : List Nat) (i : Nat) : List Nat := ((ly.take (i + 1)).drop 1).reverse
theorem Qip (ly : List Nat) : Qbz ly 0 = [] := by simp [Qbz]
theorem Qiq {ly : List Nat} {i : Nat} (h : i + 1 < ly.length) : Qbz ly (i + 1) = gr ly (i + 1) :: Qbz ly i := by
 unfold Qbz
 rw [List.take_add_one (i := i + 1), Qb7 h]
 rw [List.drop_append_of_le_length (by simp; omega)]
 simp
theorem QBs (n : Nat) (b c : Nat) (L : List Nat) (start : Nat) (w : World) (h : IsRel w b c L) (hT : Tab w) (hst : start < L.length) :
  CallsIn Fence.wide n Tryz.prog 171 #[pv b, .int .i64 start] w fun e w' => ∃ v out, e = .returned v ∧ w'.ownsRow w.heap.size 102 4 v out.length (Qgw out) ∧ Qc6 L (Qbm L) start 0 (Qa5 0 start true) out ∧ out.length ≤ 256 ∧ Below w.heap.size w w' := callsIn_wide.2 (Qsl b c L start w h hT hst)
theorem Tryz.infointC : (Tryz.prog.info? 3).map (fun i => (i.zero, i.size, i.bytes)) = some (some (.int .i64 0), 1, 8) := by kernel_rfl
def Qcl (l : List Nat) : List Value := l.map (fun x => .int .i64 ((x : Nat) : Int))
theorem Qqc (l : List Nat) (x : Nat) : Qcl (l ++ [x]) = Qcl l ++ [.int .i64 ((x : Nat) : Int)] := by simp [Qcl]
theorem QBt (R : Nat) (w : World) :
  Calls Tryz.prog 72 #[rv R] w fun e w' => e = .returned (.func (.func 114) #[] #[.pointer (some ⟨w.heap.size, 0, none⟩)]) ∧ w' = w.alloc (.cells (rcs R) 102) := (callsIn_wide (n := 1)).1 (Qep Fence.wide 1 trivial rfl R w)
structure RowsIn (w : World) (g : Nat) (ly : List Nat) : Prop where
 ex : ∃ cur, Blk w g 102 cur ∧ cur.toList.take (ly.length * 4) = Qgw ly
theorem RowsIn.lt {w : World} {g : Nat} {ly : List Nat} (h : RowsIn w g ly) : g < w.heap.size := by obtain ⟨cur, hb, _⟩ := h.ex; exact hb.lt
theorem RowsIn.below {w w' : World} {g n : Nat} {ly : List Nat} (h : RowsIn w g ly) (hb : Below n w w') (hn : g < n) : RowsIn w' g ly := by
 obtain ⟨cur, hk, e⟩ := h.ex
 exact ⟨cur, hk.below hb hn, e⟩
theorem RowsIn.grown {w w' : World} {g : Nat} {ly : List Nat} {row : Option Nat} (h : RowsIn w g ly) (hg : w.grownBy w' row) (hne : some g ≠ row) : RowsIn w' g ly := by
 obtain ⟨cur, hk, e⟩ := h.ex
 exact ⟨cur, hk.grown hg hne, e⟩
theorem RowsIn.other {w : World} {g : Nat} {ly : List Nat} (h : RowsIn w g ly) {a : Addr} (hne : g ≠ a.block) (v : Value) : RowsIn (w.setCell a v) g ly := by
 obtain ⟨cur, hk, e⟩ := h.ex
 exact ⟨cur, hk.setOther hne v, e⟩
theorem RowsIn.cells {w : World} {g : Nat} {ly : List Nat} (h : RowsIn w g ly) {i : Nat} (hi : i < ly.length) :
  w.cell? ⟨g, i * 4, none⟩ = some (.int .u64 ((wd (gr ly i) 0 : Nat) : Int)) ∧ w.cell? ⟨g, i * 4 + 1, none⟩ = some (.int .u64 ((wd (gr ly i) 1 : Nat) : Int)) ∧ w.cell? ⟨g, i * 4 + 2, none⟩ = some (.int .u64 ((wd (gr ly i) 2 : Nat) : Int)) ∧ w.cell? ⟨g, i * 4 + 3, none⟩ = some (.int .u64 ((wd (gr ly i) 3 : Nat) : Int)) := by
 obtain ⟨cur, hk, e⟩ := h.ex
 have key : ∀ j, j < 4 → cur[i * 4 + j]? = some (.int .u64 ((wd (gr ly i) j : Nat) : Int)) := by
  intro j hj
  have h1 := Qnd ly i j (gr ly i) hj (Qb7 hi)
  rw [show ly.flatMap (fun R => (rcs R).toList) = Qgw ly from rfl, ← e, List.getElem?_take_of_lt oW, Nat.mul_comm 4 i] at h1
  simpa using h1
 exact ⟨hk.cell (key 0 oW), hk.cell (key 1 oW), hk.cell (key 2 oW), hk.cell (key 3 oW)⟩
theorem Qzi {w : World} {base g cap n : Nat} {ly : List Nat} (h : w.ownsRow base 102 4 (.slice (some ⟨g, 0, none⟩) n cap) n (Qgw ly)) (hn : ly.length = n) : RowsIn w g ly ∧ base ≤ g := by
 rcases h.2 with ⟨e, _⟩ | ⟨g', cap', cur, e, h4, h5, _, _, _, h6⟩
 ·cases e
 ·cases e
  rw [← hn] at h6
  exact ⟨⟨cur, h5, h6⟩, h4⟩
theorem Qqd {w : World} {base : Nat} {v : Value} {o : List Nat} {x : Nat} (h : w.ownsRow base 3 1 v (o.length + 1) (Qcl (o ++ [x]))) : ∃ og cap, v = .slice (some ⟨og, 0, none⟩) (o.length + 1) cap ∧ base ≤ og ∧ og < w.heap.size ∧ w.cell? ⟨og, o.length, none⟩ = some (.int .i64 ((x : Nat) : Int)) := by
 rcases h.2 with ⟨_, e⟩ | ⟨g, cap, cur, rfl, h4, h5, _, _, _, h6⟩
 ·omega
 ·refine ⟨g, cap, rfl, h4, (Array.getElem?_eq_some_iff.1 h5).1, ?_⟩
  have hk : Blk w g 3 cur := h5
  apply hk.cell
  have : (Qcl (o ++ [x]))[o.length]? = some (.int .i64 (x : Int)) := by simp [Qcl]
  rw [← h6, List.getElem?_take_of_lt oW] at this
  simpa using this
theorem Qsm (b c : Nat) (L : List Nat) (start : Nat) (w : World) (h : IsRel w b c L) (hT : Tab w) (hst : start < L.length) :
  CallsIn Fence.wide 6 Tryz.prog 158 #[pv b, .int .i64 start] w fun e w' => ∃ v ly, e = .returned v ∧ Qc6 L (Qbm L) start 0 (Qa5 0 start true) ly ∧ w'.ownsRow w.heap.size 3 1 v (start :: Qbu L start (Qbz ly (ly.length - 1))).length (Qcl (start :: Qbu L start (Qbz ly (ly.length - 1)))) ∧ Below w.heap.size w w' := by
 have hl := h.len
 refine callsIn_of_wp_marks Tryz.func158 rfl trivial ?_ rfl
 simp only [Tryz.ntmps158, List.size_toArray, List.length_cons, List.length_nil, Nat.reduceAdd, Nat.reduceSub, Array.replicate_succ, Array.replicate_zero, List.push_toArray, List.append_toArray, List.nil_append, List.cons_append]
 gi_wp2_with fail
 refine ⟨trivial, ?_⟩
 refine (QBs _ b c L start _ ((h.alloc _).alloc _) ((hT.alloc _).alloc _) hst).mono ?_
 rintro e w1 ⟨v, ly, rfl, hown, hly, hlen, hB1⟩
 obtain ⟨m, hm⟩ : ∃ m, ly.length = m + 1 := by
  cases ly with
  | nil => exact absurd hly (by simp [Qc6, Qa5])
  | cons x r => exact ⟨r.length, rfl⟩
 rw [hm] at hown
 obtain ⟨g, cap, rfl⟩ := ownsRow_succ hown
 have hszz : ((w.alloc (Obj.cells #[Value.int IntKind.i64 ↑start] 3)).alloc (Obj.cells #[Value.slice (some ⟨w.heap.size, 0, none⟩) 1 1] 36)).heap.size = w.heap.size + 2 := by simp
 obtain ⟨hrows, hgb⟩ := Qzi hown hm
 rw [hszz] at hgb
 have hBw1 : Below w.heap.size w w1 := (((Below.refl _ w).alloc nW _).alloc sW _).trans (hB1.mono (by rw [hszz]; omega))
 have hbx1 : Boxed w1 (w.heap.size + 1) 36 (.slice (some ⟨w.heap.size, 0, none⟩) 1 1) := (Blk.new2 w _ _ _).of_below hB1
 have how1 : w1.ownsRow w.heap.size 3 1 (.slice (some ⟨w.heap.size, 0, none⟩) 1 1) 1 (Qcl [start]) := by
  refine ⟨rfl, .inr ⟨w.heap.size, 1, #[.int .i64 ((start : Nat) : Int)], rfl, Nat.le_refl _, ((Blk.new w _ _).alloc _).of_below hB1, Nat.le_refl _, by unfold maxLen; omega, rfl, rfl⟩⟩
 obtain ⟨i0, hi, hz0, hz1, hz2⟩ := info_parts Tryz.infointC
 have Hm : Hid (ly.length = m + 1) := hm
 have hm256 : m + 1 ≤ 256 := by omega
 clear hm hlen
 gi_wp2_with fail
 clear hown hB1 hszz
 refine wpIn_loop (fun a wr => ∃ (i : Nat) (Ds : List Nat) (o : List Nat) (lst : Nat) (u8 u17 u18 u19 u20 u21 u22 u23 u24 u25 u26 u27 u28 u29 u30 u31 u32 u33 u34 u35 u36 u37 u38 u39 u40 u41 u42 u43 : Value), (i ≤ m ∧ lst < L.length ∧ o.length + i ≤ m ∧ Hid (start :: Qbu L start (Qbz ly m) = (o ++ [lst]) ++ Qbu L lst (Qbz ly i)) ∧ (∃ v, Boxed wr (w.heap.size + 1) 36 v ∧ wr.ownsRow w.heap.size 3 1 v (o.length + 1) (Qcl (o ++ [lst]))) ∧ RowsIn wr g ly ∧ Below w.heap.size w wr ∧ Marks w.heap.size wr Ds) ∧ a = { tmps := #[pv b, .int .i64 start, undef, undef, .slice none 0 0, pv (w.heap.size + 1), .slice (some ⟨g, 0, none⟩) (m + 1) cap, .int .i64 i, u8, .int .i64 start, .slice (some ⟨w.heap.size, 0, none⟩) 1 1, pv b, .int .i64 start, .slice (some ⟨g, 0, none⟩) (m + 1) cap, .slice (some ⟨g, 0, none⟩) (m + 1) cap, .int .i64 (m + 1), .int .i64 m, u17, u18, u19, u20, u21, u22, u23, u24, u25, u26, u27, u28, u29, u30, u31, u32, u33, u34, u35, u36, u37, u38, u39, u40, u41, u42, u43, undef], defers := Ds.map Qw2 })
  (fun a _ => (intOf (a.tmps.getD 7 undef)).toNat) ?start ?round
 case start =>
  exact ⟨m, [], [], start, _, _, _, _, _, _, _, _, _, _, _, _, _, _, _, _, _, _, _, _, _, _, _, _, _, _, _, _, ⟨oW, hst, by simp, rfl, ⟨_, hbx1, how1⟩, hrows, hBw1, Marks.nil _ _⟩, rfl⟩
 case round =>
  clear hbx1 how1 hrows
  rintro _ wr ⟨i, Ds, o, lst, u8, u17, u18, u19, u20, u21, u22, u23, u24, u25, u26, u27, u28, u29, u30, u31, u32, u33, u34, u35, u36, u37, u38, u39, u40, u41, u42, u43, ⟨him, hlst, hol, HC, ⟨v, hv, hrow⟩, hrw, hB, hD⟩, rfl⟩
  obtain ⟨og, ocap, rfl, hog, hogl, hlc⟩ := Qqd hrow
  by_cases hpos : 0 < i
  ·have hro := h.below hB
   obtain ⟨y, ⟨y0, y1, y2, y3⟩, _, q1, q2⟩ := hro.slots (Qb7 hlst)
   obtain ⟨x0, x1, x2, x3⟩ := hrw.cells (i := i) (by rw [Hm.out]; omega)
   have k0 := hv.cell
   have q3 := hv.lt
   have q4 := hrw.lt
   have hd : decide ((0 : Int) < (i : Int)) = true := decide_eq_true oW
   have him2 : i < m + 1 := by omega
   have hi1 : (0 : Int) ≤ (i : Int) := by omega
   have hi2 : (i : Int) < (m : Int) + 1 := by omega
   have ho1 : (0 : Int) ≤ (o.length : Int) := by omega
   have ho2 : (o.length : Int) ≤ 256 := by omega
   have ho3 : (o.length : Int) < (o.length : Int) + 1 := by omega
   have hw2 : IntKind.i64.wrap (o.length : Int) = (o.length : Int) := by rw [IntKind.wrap_i64]; omega
   have ho4 : ¬ ((o.length : Int) + 1 ≤ (o.length : Int)) := by omega
   have ho5 : ¬ ((o.length : Int) < 0) := by omega
   have ho6 : o.length < o.length + 1 := by omega
   gi_wp2_with fail
   refine wpIn_wide.2 ?_
   go_region_held3 (fun w' => w'.cell? ⟨b, 0, none⟩ = some (.slice (some ⟨c, 0, none⟩) L.length L.length) ∧ w'.cell? ⟨w.heap.size + 1, 0, none⟩ = some (.slice (some ⟨og, 0, none⟩) (o.length + 1) ocap) ∧ w'.cell? ⟨og, o.length, none⟩ = some (.int .i64 ((lst : Nat) : Int)) ∧ w'.cell? ⟨c, lst * 4, none⟩ = some (.int .u64 ((wd (gr L lst) 0 : Nat) : Int)) ∧ w'.cell? ⟨c, lst * 4 + 1, none⟩ = some (.int .u64 ((wd (gr L lst) 1 : Nat) : Int)) ∧ w'.cell? ⟨c, lst * 4 + 2, none⟩ = some (.int .u64 ((wd (gr L lst) 2 : Nat) : Int)) ∧ w'.cell? ⟨c, lst * 4 + 3, none⟩ = some (.int .u64 ((wd (gr L lst) 3 : Nat) : Int)) ∧ w'.cell? ⟨g, i * 4, none⟩ = some (.int .u64 ((wd (gr ly i) 0 : Nat) : Int)) ∧ w'.cell? ⟨g, i * 4 + 1, none⟩ = some (.int .u64 ((wd (gr ly i) 1 : Nat) : Int)) ∧ w'.cell? ⟨g, i * 4 + 2, none⟩ = some (.int .u64 ((wd (gr ly i) 2 : Nat) : Int)) ∧ w'.cell? ⟨g, i * 4 + 3, none⟩ = some (.int .u64 ((wd (gr ly i) 3 : Nat) : Int))) (go_keep)
    (first | (go_at_call 157; refine (Qka (gr L lst) (gr ly i) _).mono ?_; rintro e w2 ⟨rfl, hB2⟩; have hB2' := Qcq hB2; clear y y0 y1 y2 y3 x0 x1 x2 x3 k0 hlc; have hv2 : Boxed w2 (w.heap.size + 1) 36 (.slice (some ⟨og, 0, none⟩) (o.length + 1) ocap) := (hB2'.block _ q3).trans hv; have hrow2 := Qqb hrow hB2'; obtain ⟨og', ocap', eog, _, hogl2, hlc⟩ := Qqd hrow2; cases eog; obtain ⟨y, ⟨y0, y1, y2, y3⟩, _, q5, q6⟩ := (hro.below hB2').slots (Qb7 hlst); have hrw2 := hrw.below hB2' q4; obtain ⟨x0, x1, x2, x3⟩ := hrw2.cells (i := i) (by rw [Hm.out]; omega); have k0 := hv2.cell; have q7 := hv2.lt; have q8 := hrw2.lt) | (go_at_call 72; refine (QBt (gr L lst &&& gr ly i) _).mono ?_; rintro e w' ⟨rfl, rfl⟩))
   have hBw2 : Below w.heap.size w w2 := Qaa hB hB.size hB2'
   have hT2 := hT.step hBw2
   have hD2 := hD.keeps (Qgn hB2')
   have hDlt := hD2.lt
   have hs2 := hBw2.size
   have htp := hT.pos
   have HB : Hid (∃ j, i = j + 1 ∧ Qbu L lst (Qbz ly i) = (match Qae (gr L lst &&& gr ly i) with | [] => Qbu L lst (Qbz ly j) | q :: _ => q :: Qbu L q (Qbz ly j))) := by
    obtain ⟨j, rfl⟩ : ∃ j, i = j + 1 := ⟨i - 1, oW⟩
    refine ⟨j, rfl, ?_⟩
    rw [Qiq (by rw [Hm.out]; omega)]
    rfl
   have HML : Hid (∀ q, q ∈ Qae (gr L lst &&& gr ly i) → q < L.length) := by
    intro q hq
    have h1 := (Qa1.1 hq).2
    apply Nat.lt_of_not_le
    intro hle
    rw [Qc2 (Qtt (hro.gr_lt lst)) hle] at h1
    cases h1
   generalize hMM : gr L lst &&& gr ly i = M at *
   clear y y0 y1 y2 y3 x0 x1 x2 x3 k0 hlc hi1 hi2 ho1 ho2 ho3 ho4 ho5 ho6 hw2 hMM hv hrow hrw hB hD hB2 hB2' hro q1 q2 q3 q4 q5 q6
   gi_wp2
   refine wpIn_rangeFunc_ownF rfl oW (gf := 114) (lb := #[.pointer (some ⟨w2.heap.size, 0, none⟩)]) rfl trivial (enters_of Tryz.func114 kW rfl)
    (Qdc M w2.heap.size (6 - 1) oW _ ?hB ?hT) belowK_t (belowK_b sW) bW (fun _ => rfl)
    (fun pre W => w2.heap.size + 1 ≤ W.heap.size ∧ pre = [] ∧ Boxed W (w.heap.size + 1) 36 (.slice (some ⟨og, 0, none⟩) (o.length + 1) ocap) ∧ W.ownsRow w.heap.size 3 1 (.slice (some ⟨og, 0, none⟩) (o.length + 1) ocap) (o.length + 1) (Qcl (o ++ [lst])) ∧ RowsIn W g ly ∧ Tab W ∧ Marks w.heap.size W Ds ∧ Below w.heap.size w W)
    (fun cd pre W => w2.heap.size + 1 ≤ W.heap.size ∧ cd = .exit 2 ∧ ∃ q v, Qc pre = [q] ∧ q ∈ Qae M ∧ Boxed W (w.heap.size + 1) 36 v ∧ W.ownsRow w.heap.size 3 1 v ((o ++ [lst]).length + 1) (Qcl ((o ++ [lst]) ++ [q])) ∧ RowsIn W g ly ∧ Tab W ∧ Marks w.heap.size W Ds ∧ Below w.heap.size w W)
    ?hI ?hIx ?h0
    (fun x => { tmps := #[pv b, .int .i64 start, undef, undef, .slice none 0 0, pv (w.heap.size + 1), .slice (some ⟨g, 0, none⟩) (m + 1) cap, .int .i64 i, .int .i64 (x.1 : Int), .int .i64 start, .slice (some ⟨w.heap.size, 0, none⟩) 1 1, pv b, .int .i64 start, .slice (some ⟨g, 0, none⟩) (m + 1) cap, .slice (some ⟨g, 0, none⟩) (m + 1) cap, .int .i64 (m + 1), .int .i64 m, .int .i64 i, .bool true, u19, u20, pv b, pv b, pv b, .slice (some ⟨c, 0, none⟩) L.length L.length, .slice (some ⟨og, 0, none⟩) (o.length + 1) ocap, .slice (some ⟨og, 0, none⟩) (o.length + 1) ocap, .int .i64 (o.length + 1), .int .i64 o.length, .pointer (some ⟨og, o.length, none⟩), .int .i64 lst, .pointer (some ⟨c, lst * 4, none⟩), rv (gr L lst), .slice (some ⟨g, 0, none⟩) (m + 1) cap, .int .i64 i, .pointer (some ⟨g, i * 4, none⟩), rv (gr ly i), rv M, .func (.func 114) #[] #[.pointer (some ⟨w2.heap.size, 0, none⟩)], .int .i64 (x.1 : Int), u40, u41, u42, u43, undef], defers := [] }) ?assign ?body ?done ?stop
   case hB => exact Blk.new _ _ _
   case hT => exact hT2.alloc _
   case hI =>
    refine Qex (fun s W hi => by simpa using hi.1) ?_
    rintro s W W' ⟨h1, h2, h3, h4, h5, h6, h7, h8⟩ hb' ho
    have hb' : Below (w2.heap.size + 1) W W' := by simpa using hb'
    exact ⟨Nat.le_trans h1 hb'.size, h2, (hb'.block _ oW).trans h3, ho _ _ _ _ _ _ h4, h5.below hb' oW, h6.below hb' oW, h7.below hb' (fun D hD => by have := hDlt D hD; omega), h8.trans (hb'.mono oW)⟩
   case hIx =>
    intro cd
    refine Qex (fun s W hi => by simpa using hi.1) ?_
    rintro s W W' ⟨h1, h2, q, v, h9, h10, h3, h4, h5, h6, h7, h8⟩ hb' ho
    have hb' : Below (w2.heap.size + 1) W W' := by simpa using hb'
    exact ⟨Nat.le_trans h1 hb'.size, h2, q, v, h9, h10, (hb'.block _ oW).trans h3, ho _ _ _ _ _ _ h4, h5.below hb' oW, h6.below hb' oW, h7.below hb' (fun D hD => by have := hDlt D hD; omega), h8.trans (hb'.mono oW)⟩
   case h0 =>
    exact ⟨by simp, rfl, hv2.alloc _, hrow2.alloc _, hrw2.below (bW.alloc nW _) hrw2.lt, hT2.alloc _, hD2.keeps (KeepsOthers.alloc _ _), hBw2.alloc hs2 _⟩
   case assign =>
    intro l x W K hK
    gi_wp2
    exact hK
   case body =>
    rintro l pre x W ⟨h1, rfl, h3, h4, h5, h6, h7, h8⟩ _
    have k0 := h3.cell
    have hs8 := h8.size
    gi_wp2_with (gi_at_builtin; refine wpListIn_append_own _ rfl _ _ 36 rfl w.heap.size 3 i0 (.int .i64 0) 1 8 Tryz.underlying36 hi hz0 hz1 hz2 rfl dW (.slice (some ⟨og, 0, none⟩) (o.length + 1) ocap) _ _ rfl (h4.alloc _) ⟨W.heap.size, 0, none⟩ 1 1 [.int .i64 (x.1 : Int)] rfl rfl (cell_one_new _ _ _) (by simp [Value.oneCell']) (by unfold maxLen; omega) oW (by simp; omega) ?_; intro v' w3 hown' hgrow _; obtain ⟨g', cap', rfl⟩ := ownsRow_succ hown'; obtain ⟨hv1, hv3, hr2, hk2, hb2⟩ := h3.appended dW h4 hs8 oW hown' hgrow; have hc1 := hv1.cell; have hf1 := hv1.frozen)
    refine ⟨hk2, Nat.le_trans h1 hk2.size, rfl, x.1, _, rfl, x.2, hv3, ?_, ?_, h6.below hb2 oW, h7.keeps hk2, h8.trans hb2⟩
    ·rw [Qqc, List.length_append]; exact hr2
    ·obtain ⟨cur, hk, e⟩ := h5.ex
     have hne : some g ≠ (Value.slice (some ⟨og, 0, none⟩) (o.length + 1) ocap).ownBlock := by
      intro e'
      obtain rfl : g = og := by simpa [Value.ownBlock] using e'
      rcases h4.2 with ⟨e2, _⟩ | ⟨g2, cap2, cur2, e2, _, hgb2, _⟩
      ·cases e2
      ·cases e2
       have := hk.symm.trans hgb2
       simp at this
     exact ((⟨cur, hk.alloc _, e⟩ : RowsIn (W.alloc _) g ly).grown hgrow hne).other (by simp; omega) _
   case done =>
    rintro D ys W hDD hys ⟨h1, rfl, h3, h4, h5, h6, h7, h8⟩ hK
    have hnil : Qae M = [] := hys.symm
    obtain ⟨j, rfl, hcy⟩ := HB.out
    rw [hnil] at hcy
    have HC2 : Hid (start :: Qbu L start (Qbz ly m) = (o ++ [lst]) ++ Qbu L lst (Qbz ly j)) := by show _ = _; rw [HC.out, hcy]
    clear hcy HB
    gi_wp2
    have hm2 : Marks w.heap.size W (D :: Ds) := h7.cons hK (by simp at hDD; omega) (fun E hE => by have := hDlt E hE; simp at hDD; omega)
    refine ⟨?_, ?_⟩
    ·refine ⟨j, D :: Ds, o, lst, ?_⟩
     repeat apply Exists.intro
     exact ⟨⟨oW, hlst, oW, HC2, ⟨_, h3, h4⟩, h5, h8, hm2⟩, rfl⟩
    ·simp [intOf]
   case stop =>
    rintro D cd pre W hDD hpre ⟨h1, rfl, q, v, hq, hqm, h3, h4, h5, h6, h7, h8⟩ hK
    rw [hq] at hpre
    obtain ⟨tl, htl⟩ := hpre
    obtain ⟨j, rfl, hcy⟩ := HB.out
    rw [← htl] at hcy
    have HC2 : Hid (start :: Qbu L start (Qbz ly m) = ((o ++ [lst]) ++ [q]) ++ Qbu L q (Qbz ly j)) := by show _ = _; rw [HC.out, hcy]; simp
    have hqL := HML.out q hqm
    clear hcy HB htl
    gi_wp2
    have hm2 : Marks w.heap.size W (D :: Ds) := h7.cons hK (by simp at hDD; omega) (fun E hE => by have := hDlt E hE; simp at hDD; omega)
    refine ⟨?_, ?_⟩
    ·refine ⟨j, D :: Ds, o ++ [lst], q, ?_⟩
     repeat apply Exists.intro
     exact ⟨⟨oW, hqL, by simp; omega, HC2, ⟨_, h3, h4⟩, h5, h8, hm2⟩, rfl⟩
    ·simp [intOf]
  ·obtain rfl : i = 0 := by omega
   have k0 := hv.cell
   gi_wp2
   refine Qeg hD ⟨_, results_tmp rfl _ _ _, _, ly, rfl, hly, ?_, hB.trans (Qf5 hD)⟩
   have e : start :: Qbu L start (Qbz ly (ly.length - 1)) = o ++ [lst] := by
    rw [Hm.out, Nat.add_sub_cancel, HC.out, Qip]; simp [Qbu]
   have e2 : (Qbu L start (Qbz ly (ly.length - 1))).length + 1 = o.length + 1 := by have := congrArg List.length e; simpa using this
   rw [e, e2]
   exact Qiw hD hrow
theorem Qod (b c : Nat) (L : List Nat) (start : Nat) (w : World) (h : IsRel w b c L) (hT : Tab w) (hst : start < L.length) :
  Calls Tryz.prog 158 #[pv b, .int .i64 start] w fun e w' => ∃ v ly, e = .returned v ∧ Qc6 L (Qbm L) start 0 (Qa5 0 start true) ly ∧ w'.ownsRow w.heap.size 3 1 v (start :: Qbu L start (Qbz ly (ly.length - 1))).length (Qcl (start :: Qbu L start (Qbz ly (ly.length - 1)))) ∧ Below w.heap.size w w' := callsIn_wide.1 (Qsm b c L start w h hT hst)
end Go.Proofs.YtdkogbfamdnheaaGreatDoor
