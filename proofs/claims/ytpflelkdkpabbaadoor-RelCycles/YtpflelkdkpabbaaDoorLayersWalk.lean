/- The contract of package rel's layers. -/
import Derived.Test.YtpflelkdkpabbaaDoorInvWalk
import Derived.Test.YtpflelkdkpabbaaDoorPairsWalk
import Derived.Deep.LoopGhost
namespace Go.Proofs.YtpflelkdkpabbaaDoor
open Go.RowKit Go.Shelf Sx

/-- What layers tells, from a moment on: seen, near, and the layers that are still to come. -/
def LayOK (L Bk : List Nat) (start : Nat) : Nat → Nat → List Nat → Prop
  | _, near, [] => near = 0
  | seen, near, x :: rest => near ≠ 0 ∧ x = near ∧ (gr L start &&& near = 0 → LayOK L Bk start (seen ||| near) (ldiff (joinRows Bk (bitsOf near)) (seen ||| near)) rest) ∧ (gr L start &&& near ≠ 0 → rest = [])
def flatL (l : List Nat) : List Value := l.flatMap (fun R => (rcs R).toList)
theorem flatL_snoc (l : List Nat) (R : Nat) : flatL (l ++ [R]) = flatL l ++ [.int .u64 ((wd R 0 : Nat) : Int), .int .u64 ((wd R 1 : Nat) : Int), .int .u64 ((wd R 2 : Nat) : Int), .int .u64 ((wd R 3 : Nat) : Int)] := by simp [flatL, rcs]
/-- How many points below n. -/
def cnt (n x : Nat) : Nat := (bitsN n x).length
theorem filter_or_length (l : List Nat) (p q : Nat → Bool) (h : ∀ x ∈ l, ¬ (p x = true ∧ q x = true)) : (l.filter (fun x => p x || q x)).length = (l.filter p).length + (l.filter q).length := by
  induction l with
  | nil => rfl
  | cons x l ih =>
    have ih := ih (fun y hy => h y (List.mem_cons_of_mem _ hy))
    have hx := h x (by simp)
    simp only [List.filter_cons]
    cases hp : p x <;> cases hq : q x
    · simp [ih]
    · simp [ih]; omega
    · simp [ih]; omega
    · exact absurd ⟨hp, hq⟩ hx
theorem cnt_or {n x y : Nat} (h : x &&& y = 0) : cnt n (x ||| y) = cnt n x + cnt n y := by
  unfold cnt bitsN
  rw [← filter_or_length _ _ _ (fun i _ => ?_)]
  · congr 2
    funext i
    exact Nat.testBit_or x y i
  · have := congrArg (fun z => z.testBit i) h
    simp at this
    rintro ⟨h1, h2⟩
    rw [this h1] at h2
    cases h2
theorem cnt_pos {n y : Nat} (h : y < 2 ^ n) (h0 : y ≠ 0) : 0 < cnt n y := by
  obtain ⟨i, hi⟩ := Nat.exists_testBit_of_ne_zero h0
  have hin : i < n := by
    apply Nat.lt_of_not_le
    intro hle
    rw [testBit_of_lt h hle] at hi
    cases hi
  exact List.length_pos_of_mem (mem_bitsN.2 ⟨hin, hi⟩)
theorem cnt_le (n x : Nat) : cnt n x ≤ n := by
  have := List.length_filter_le x.testBit (List.range n)
  simpa [cnt, bitsN] using this
theorem ldiff_disjoint (x s : Nat) : ldiff x s &&& s = 0 := by
  apply Nat.eq_of_testBit_eq
  intro i
  rw [Nat.testBit_and, testBit_ldiff, Nat.zero_testBit]
  cases x.testBit i <;> cases s.testBit i <;> rfl
theorem and_comm_zero {x y : Nat} (h : x &&& y = 0) : y &&& x = 0 := by rw [Nat.and_comm]; exact h
theorem ownsRow_le {w : World} {b b' : Nat} {e : TypeId} {size : Nat} {v : Value} {n : Nat} {xs : List Value} (h : w.ownsRow b e size v n xs) (hb : b' ≤ b) : w.ownsRow b' e size v n xs := by
  refine ⟨h.1, ?_⟩
  rcases h.2 with h2 | ⟨g, cap, cur, h3, h4, h5⟩
  · exact .inl h2
  · exact .inr ⟨g, cap, cur, h3, by omega, h5⟩
theorem news_four (w : World) (a b c d : Value) (t : TypeId) : ∀ j u, [a, b, c, d][j]? = some u → (w.alloc (.cells #[a, b, c, d] t)).cell? ((⟨w.heap.size, 0, none⟩ : Addr).add j) = some u := by
  intro j u hj
  have h := Blk.new w t #[a, b, c, d]
  match j, hj with
  | 0, hj => simp at hj; subst hj; exact h.cell (j := 0) rfl
  | 1, hj => simp at hj; subst hj; exact h.cell (j := 1) rfl
  | 2, hj => simp at hj; subst hj; exact h.cell (j := 2) rfl
  | 3, hj => simp at hj; subst hj; exact h.cell (j := 3) rfl
  | j + 4, hj => simp at hj

theorem invIn_length (A : List Nat) (p : Nat) (l : List Nat) : (invIn A p l).length = A.length := by
  unfold invIn
  induction l generalizing A with
  | nil => rfl
  | cons q l ih => rw [List.foldl_cons, ih, putP_length]
theorem invK_length (L : List Nat) (k : Nat) : (invK L k).length = L.length := by
  induction k with
  | zero => simp [invK]
  | succ k ih => rw [invK_succ, invIn_length, ih]
theorem owns_step {w w' : World} {b : Nat} {e : TypeId} {size : Nat} {v : Value} {n : Nat} {xs : List Value} (h : w.ownsRow b e size v n xs) (hb : Below w.heap.size w w') : w'.ownsRow b e size v n xs := by
  refine ⟨h.1, ?_⟩
  rcases h.2 with h2 | ⟨g, cap, cur, h3, h4, h5, h6⟩
  · exact .inl h2
  · exact .inr ⟨g, cap, cur, h3, h4, (hb.block g (Array.getElem?_eq_some_iff.1 h5).1).trans h5, h6⟩
theorem Blk.grown {w w' : World} {b : Nat} {t : TypeId} {cs : Array Value} {row : Option Nat} (h : Blk w b t cs) (hg : w.grownBy w' row) (hne : some b ≠ row) : Blk w' b t cs := (hg.block b h.lt hne).trans h
theorem owns_ne {w : World} {base : Nat} {e : TypeId} {size : Nat} {v : Value} {n : Nat} {xs : List Value} (h : w.ownsRow base e size v n xs) {k : Nat} (hk : k < base) : some k ≠ v.ownBlock := by
  rcases h.2 with ⟨rfl, _⟩ | ⟨g, cap, cur, rfl, hg, _⟩
  · simp [Value.ownBlock]
  · intro e'
    simp [Value.ownBlock] at e'
    omega
theorem owns_ge {w : World} {base : Nat} {e : TypeId} {size : Nat} {v : Value} {n : Nat} {xs : List Value} (h : w.ownsRow base e size v n xs) {k : Nat} (hk : v.ownBlock = some k) : base ≤ k := by
  apply Nat.le_of_not_lt
  intro hlt
  exact owns_ne h hlt hk.symm
theorem owns_set {w : World} {base : Nat} {e : TypeId} {size : Nat} {v : Value} {n : Nat} {xs : List Value} (h : w.ownsRow base e size v n xs) {a : Addr} (hne : some a.block ≠ v.ownBlock) (u : Value) : (w.setCell a u).ownsRow base e size v n xs := by
  refine ⟨h.1, ?_⟩
  rcases h.2 with h2 | ⟨g, cap, cur, rfl, h4, h5, h6⟩
  · exact .inl h2
  · refine .inr ⟨g, cap, cur, rfl, h4, (Below.heap_setCell _ _ _ _ ?_).trans h5, h6⟩
    intro e'
    exact hne (by simp [Value.ownBlock, e'])

/-- The state of layers between two steps. -/
structure LS (base sB b c b2 c2 : Nat) (L : List Nat) (seen near N : Nat) (v : Value) (d : List Nat) (wr : World) : Prop where
  nearB : Blk wr N 71 (rcs near)
  seenB : Blk wr sB 71 (rcs seen)
  own : wr.ownsRow base 71 4 v d.length (flatL d)
  ne : some N ≠ v.ownBlock
  rel : IsRel wr b c L
  back : IsRel wr b2 c2 (invL L)
  tab : Tab wr
  hN : base ≤ N
  low : sB < base ∧ b < base ∧ c < base ∧ b2 < base ∧ c2 < base ∧ 0 < base ∧ 0 < sB
theorem LS.step {base sB b c b2 c2 : Nat} {L : List Nat} {seen near N : Nat} {v : Value} {d : List Nat} {wr w' : World} (h : LS base sB b c b2 c2 L seen near N v d wr) (hb : Below wr.heap.size wr w') : LS base sB b c b2 c2 L seen near N v d w' :=
  ⟨h.nearB.of_below hb, h.seenB.of_below hb, owns_step h.own hb, h.ne, h.rel.below hb, h.back.below hb, h.tab.step hb, h.hN, h.low⟩
theorem LS.drew {base sB b c b2 c2 : Nat} {L : List Nat} {seen near N : Nat} {v : Value} {d : List Nat} {wr : World} (h : LS base sB b c b2 c2 L seen near N v d wr) : LS base sB b c b2 c2 L seen near N v d wr.drew :=
  h.step ⟨rfl, rfl, rfl, Nat.le_refl _, fun _ _ => rfl⟩
theorem LS.alloc {base sB b c b2 c2 : Nat} {L : List Nat} {seen near N : Nat} {v : Value} {d : List Nat} {wr : World} (h : LS base sB b c b2 c2 L seen near N v d wr) (o : Obj) : LS base sB b c b2 c2 L seen near N v d (wr.alloc o) :=
  h.step ((Below.refl _ _).alloc (Nat.le_refl _) _)
/-- Behind the append of near to the layers. -/
theorem LS.app {base sB b c b2 c2 : Nat} {L : List Nat} {seen near N : Nat} {v v' : Value} {d : List Nat} {wr w1 : World} (h : LS base sB b c b2 c2 L seen near N v d wr)
    (hown : w1.ownsRow base 71 4 v' (d.length + 1) (flatL d ++ [.int .u64 ((wd near 0 : Nat) : Int), .int .u64 ((wd near 1 : Nat) : Int), .int .u64 ((wd near 2 : Nat) : Int), .int .u64 ((wd near 3 : Nat) : Int)])) (hgrow : wr.grownBy w1 v.ownBlock)
    (hat : v'.ownBlock = v.ownBlock ∨ v'.ownBlock = some wr.heap.size) : LS base sB b c b2 c2 L seen near N v' (d ++ [near]) w1 := by
  obtain ⟨l1, l2, l3, l4, l5, l6, l7⟩ := h.low
  refine ⟨h.nearB.grown hgrow h.ne, h.seenB.grown hgrow (owns_ne h.own l1), ?_, ?_, ?_, ?_, ?_, h.hN, h.low⟩
  · rw [List.length_append, flatL_snoc]; exact hown
  · rcases hat with e | e
    · rw [e]; exact h.ne
    · rw [e]; intro e'; have := h.nearB.lt; simp at e'; omega
  · exact ⟨h.rel.ne, h.rel.head.grown hgrow (owns_ne h.own l2), h.rel.rows.grown hgrow (owns_ne h.own l3), h.rel.len, h.rel.low⟩
  · exact ⟨h.back.ne, h.back.head.grown hgrow (owns_ne h.own l4), h.back.rows.grown hgrow (owns_ne h.own l5), h.back.len, h.back.low⟩
  · refine h.tab.below (n := 1) ⟨hgrow.os, hgrow.tape, hgrow.output, hgrow.size, fun k hk => hgrow.block k (by have := h.tab.pos; omega) ?_⟩ (by omega)
    obtain rfl : k = 0 := by omega
    exact owns_ne h.own l6
theorem LS.setSeen {base sB b c b2 c2 : Nat} {L : List Nat} {seen near N : Nat} {v : Value} {d : List Nat} {wr : World} (h : LS base sB b c b2 c2 L seen near N v d wr) (hd : sB ≠ b ∧ sB ≠ c ∧ sB ≠ b2 ∧ sB ≠ c2) (S : Nat) :
    LS base sB b c b2 c2 L S near N v d ((((wr.setCell ⟨sB, 0, none⟩ (.int .u64 ((wd S 0 : Nat) : Int))).setCell ⟨sB, 1, none⟩ (.int .u64 ((wd S 1 : Nat) : Int))).setCell ⟨sB, 2, none⟩ (.int .u64 ((wd S 2 : Nat) : Int))).setCell ⟨sB, 3, none⟩ (.int .u64 ((wd S 3 : Nat) : Int))) := by
  obtain ⟨l1, l2, l3, l4, l5, l6, l7⟩ := h.low
  have hn := h.hN
  exact ⟨h.nearB.otherRow (by omega) _ _ _ _ _ _ _ _, h.seenB.setRow S, owns_set (owns_set (owns_set (owns_set h.own (owns_ne h.own l1) _) (owns_ne h.own l1) _) (owns_ne h.own l1) _) (owns_ne h.own l1) _, h.ne,
    h.rel.otherRow (by omega) (by omega) _ _ _ _ _ _ _ _, h.back.otherRow (by omega) (by omega) _ _ _ _ _ _ _ _, h.tab.below (n := 1) (below_setRow (Below.refl _ _) (by omega) _ _ _ _ _ _ _ _) (by omega), h.hN, h.low⟩
/-- A new box for near. -/
theorem LS.renew {base sB b c b2 c2 : Nat} {L : List Nat} {seen near N : Nat} {v : Value} {d : List Nat} {wr : World} (h : LS base sB b c b2 c2 L seen near N v d wr) : LS base sB b c b2 c2 L seen near wr.heap.size v d (wr.alloc (.cells (rcs near) 71)) := by
  have h' := h.alloc (.cells (rcs near) 71)
  refine ⟨Blk.new _ _ _, h'.seenB, h'.own, ?_, h'.rel, h'.back, h'.tab, ?_, h.low⟩
  · rcases h.own.2 with ⟨rfl, _⟩ | ⟨g, cap, cur, rfl, hg, hgb, _⟩
    · simp [Value.ownBlock]
    · intro e'
      have := (Array.getElem?_eq_some_iff.1 hgb).1
      simp [Value.ownBlock] at e'
      omega
  · have := h.nearB.lt; have := h.hN; omega
theorem LS.setNear {base sB b c b2 c2 : Nat} {L : List Nat} {seen near N : Nat} {v : Value} {d : List Nat} {wr : World} (h : LS base sB b c b2 c2 L seen near N v d wr) (S : Nat) :
    LS base sB b c b2 c2 L seen S N v d ((((wr.setCell ⟨N, 0, none⟩ (.int .u64 ((wd S 0 : Nat) : Int))).setCell ⟨N, 1, none⟩ (.int .u64 ((wd S 1 : Nat) : Int))).setCell ⟨N, 2, none⟩ (.int .u64 ((wd S 2 : Nat) : Int))).setCell ⟨N, 3, none⟩ (.int .u64 ((wd S 3 : Nat) : Int))) := by
  obtain ⟨l1, l2, l3, l4, l5, l6, l7⟩ := h.low
  have hn := h.hN
  exact ⟨h.nearB.setRow S, h.seenB.otherRow (by omega) _ _ _ _ _ _ _ _, owns_set (owns_set (owns_set (owns_set h.own h.ne _) h.ne _) h.ne _) h.ne _, h.ne,
    h.rel.otherRow (by omega) (by omega) _ _ _ _ _ _ _ _, h.back.otherRow (by omega) (by omega) _ _ _ _ _ _ _ _, h.tab.below (n := 1) (below_setRow (Below.refl _ _) (by omega) _ _ _ _ _ _ _ _) (by omega), h.hN, h.low⟩

set_option maxRecDepth 100000 in
set_option maxHeartbeats 4000000 in
theorem layers_calls (b c : Nat) (L : List Nat) (start : Nat) (w : World) (h : IsRel w b c L) (hT : Tab w) (hst : start < L.length) :
    Calls Tryd.prog 83 #[pv b, .int .i64 start] w fun e w' => ∃ v out, e = .returned v ∧ w'.ownsRow w.heap.size 71 4 v out.length (flatL out) ∧ LayOK L (invL L) start 0 (setB 0 start true) out ∧ out.length ≤ 256 ∧ Below w.heap.size w w' := by
  have hl := h.len
  obtain ⟨i0, hi, hz0, hz1, hz2⟩ := info_parts Tryd.inforow
  go_enter Tryd.func83, Tryd.ntmps83
  go_wp2_with fail
  refine (Inverse_calls b c L _ h hT).mono ?_
  rintro e w1 ⟨b2, c2, rfl, hM⟩
  go_wp2_with fail
  refine (with_calls 0 start true (by omega) _).mono ?_
  rintro e w2 ⟨rfl, hB2⟩
  have hs1 : w1.heap.size + 1 ≤ w2.heap.size := by have := hB2.size; simpa using this
  have hw2 : Below w.heap.size w w2 := (hM.below.alloc hM.below.size _).trans (hB2.mono (by have := hM.below.size; simp; omega))
  have hsm := hM.below.size
  have hpos := hT.pos
  have hlt : b < w.heap.size ∧ c < w.heap.size := ⟨h.head.lt, h.rows.lt⟩
  have hlt2 : b2 < w1.heap.size ∧ c2 < w1.heap.size := ⟨hM.rel.head.lt, hM.rel.rows.lt⟩
  have hls : LS w2.heap.size w1.heap.size b c b2 c2 L 0 (setB 0 start true) w2.heap.size (.slice none 0 0) [] (w2.alloc (.cells (rcs (setB 0 start true)) 71)) := by
    refine ⟨Blk.new _ _ _, ?_, World.ownsRow_nil _ _ _ _, by simp [Value.ownBlock], (h.below hw2).alloc _, ?_, (hT.step hw2).alloc _, Nat.le_refl _, by omega⟩
    · rw [rcs_zero]; exact ((Blk.new w1 _ _).of_below hB2).alloc _
    · exact ((hM.rel.alloc _).below hB2).alloc _
  have HLow : Hid (setB 0 start true < 2 ^ L.length) := setB_lt (Nat.two_pow_pos _) hst
  have HI : Hid (∀ R ∈ invL L, R < 2 ^ L.length) := fun R hR => by have := hM.rel.low R hR; rwa [show (invL L).length = L.length from invK_length L L.length] at this
  clear hM hB2
  go_wp2_with fail
  go_loopg [7, 8] (L.length) (fun k v7 v8 wr => ∃ (seen near N : Nat) (d : List Nat), v8 = pv N ∧ LS w2.heap.size w1.heap.size b c b2 c2 L seen near N v7 d wr ∧ Below w.heap.size w wr ∧ Hid (near < 2 ^ L.length ∧ seen < 2 ^ L.length ∧ near &&& seen = 0 ∧ d.length ≤ cnt L.length seen ∧ cnt L.length seen + k = L.length ∧ ∀ rest, LayOK L (invL L) start seen near rest → LayOK L (invL L) start 0 (setB 0 start true) (d ++ rest)))
  case atStart =>
    refine ⟨0, setB 0 start true, w2.heap.size, [], rfl, hls, hw2.alloc hw2.size _, HLow.out, Nat.two_pow_pos _, by simp, by simp, ?_, fun rest hr => hr⟩
    simp [cnt, bitsN_zero]
  case round =>
    clear hls
    obtain ⟨seen, near, N, d, rfl, hls, hB, HC⟩ := hrel
    obtain ⟨⟨n0, n1, n2, n3⟩, _, n5⟩ := hls.nearB.row
    have Hnl : Hid (near < 2 ^ 256) := Nat.lt_of_lt_of_le HC.out.1 (Nat.pow_le_pow_right (by omega) hl)
    go_wp2_with fail
    refine (empty_calls near Hnl _).mono ?_
    rintro e w3 ⟨rfl, hB3⟩
    have hls3 := hls.step hB3
    have hBw3 := below_step hB hB.size hB3
    clear n0 n1 n2 n3 n5 hls hB3
    cases hz : (near == 0)
    · have Hz : Hid (near ≠ 0) := by intro e; rw [e] at hz; cases hz
      clear hz
      have hdl : d.length ≤ 256 := by have := HC.out.2.2.2.1; have := cnt_le L.length seen; omega
      obtain ⟨⟨n0, n1, n2, n3⟩, _, n5⟩ := hls3.nearB.row
      have ho := hls3.own
      go_wp2_with (at_builtin; refine wpList_append_own_at _ rfl _ _ 66 rfl w2.heap.size 71 i0 (.agg #[.int .u64 0, .int .u64 0, .int .u64 0, .int .u64 0]) 4 32 Tryd.underlying66 hi hz0 hz1 hz2 rfl (by decide) u7 _ _ rfl (ho.alloc _) ⟨w3.heap.size, 0, none⟩ 1 1 [.int .u64 ((wd near 0 : Nat) : Int), .int .u64 ((wd near 1 : Nat) : Int), .int .u64 ((wd near 2 : Nat) : Int), .int .u64 ((wd near 3 : Nat) : Int)] rfl rfl (news_four _ _ _ _ _ _) (by simp [Value.oneCell']) (by unfold maxLen; omega) (by omega) (by have := hls3.nearB.lt; have := hls3.hN; simp; omega) ?_; intro v' w4 hown' hgrow _ hat)
      have hls4 := (hls3.alloc _).app hown' hgrow hat
      have hBw4 : Below w.heap.size w w4 := (hBw3.alloc hBw3.size _).grown hgrow (by have := hBw3.size; simp; omega) (fun k e => by have := owns_ge ho e; omega)
      clear n0 n1 n2 n3 n5 ho hown' hgrow hat hls3 hBw3 hB
      obtain ⟨y, ⟨y0, y1, y2, y3⟩, _, q1, q2⟩ := hls4.rel.slots (gr_of hst)
      obtain ⟨⟨n0, n1, n2, n3⟩, _, n5⟩ := hls4.nearB.row
      have Hand : Hid (gr L start &&& near < 2 ^ 256) := and_lt (Nat.lt_of_lt_of_le (h.gr_lt start) (Nat.pow_le_pow_right (by omega) hl))
      go_region_held3 (fun w' => w'.cell? ⟨b, 0, none⟩ = some (.slice (some ⟨c, 0, none⟩) L.length L.length) ∧ w'.cell? ⟨c, start * 4, none⟩ = some (.int .u64 ((wd (gr L start) 0 : Nat) : Int)) ∧ w'.cell? ⟨c, start * 4 + 1, none⟩ = some (.int .u64 ((wd (gr L start) 1 : Nat) : Int)) ∧ w'.cell? ⟨c, start * 4 + 2, none⟩ = some (.int .u64 ((wd (gr L start) 2 : Nat) : Int)) ∧ w'.cell? ⟨c, start * 4 + 3, none⟩ = some (.int .u64 ((wd (gr L start) 3 : Nat) : Int)) ∧ w'.cell? ⟨N, 0, none⟩ = some (.int .u64 ((wd near 0 : Nat) : Int)) ∧ w'.cell? ⟨N, 1, none⟩ = some (.int .u64 ((wd near 1 : Nat) : Int)) ∧ w'.cell? ⟨N, 2, none⟩ = some (.int .u64 ((wd near 2 : Nat) : Int)) ∧ w'.cell? ⟨N, 3, none⟩ = some (.int .u64 ((wd near 3 : Nat) : Int))) (go_keep)
        (first | (go_at_call 48; refine (meet_calls (gr L start) near _).mono ?_; rintro e w5 ⟨rfl, hB5⟩; have hls5 := hls4.drew.step hB5; clear y y0 y1 y2 y3 n0 n1 n2 n3; obtain ⟨y, ⟨y0, y1, y2, y3⟩, _, q3, q4⟩ := hls5.rel.slots (gr_of hst); obtain ⟨⟨n0, n1, n2, n3⟩, _, n6⟩ := hls5.nearB.row) | (go_at_call 75; refine (empty_calls (gr L start &&& near) Hand _).mono ?_; rintro e w6 ⟨rfl, hB6⟩; have hls6 := hls5.step hB6; clear y y0 y1 y2 y3 n0 n1 n2 n3; obtain ⟨y, ⟨y0, y1, y2, y3⟩, _, q5, q6⟩ := hls6.rel.slots (gr_of hst); obtain ⟨⟨n0, n1, n2, n3⟩, _, n7⟩ := hls6.nearB.row))
      have hBw6 : Below w.heap.size w w6 := below_step (below_step hBw4 hBw4.size (below_of_drew' hB5)) (Nat.le_trans hBw4.size hB5.size) hB6
      clear hB5 hB6 hls4 hls5 hBw4 y y0 y1 y2 y3 q1 q2 q3 q4 n6 n5
      cases hh : (gr L start &&& near == 0)
      · have Hh : Hid (gr L start &&& near ≠ 0) := by intro e; rw [e] at hh; cases hh
        go_wp2_with fail
        go_ret
        refine ⟨v', d ++ [near], rfl, ownsRow_le hls6.own (by omega), HC.out.2.2.2.2.2 [near] ⟨Hz.out, rfl, fun e => absurd e Hh.out, fun _ => rfl⟩, ?_, hBw6⟩
        have h1 := HC.out.2.2.2.1
        have h2 := cnt_le L.length (seen ||| near)
        rw [cnt_or (and_comm_zero HC.out.2.2.1)] at h2
        have h3 := cnt_pos HC.out.1 Hz.out
        simp; omega
      · have Hh : Hid (gr L start &&& near = 0) := eq_of_beq hh
        obtain ⟨⟨s0, s1, s2, s3⟩, _, s5⟩ := hls6.seenB.row
        go_wp2_with fail
        refine (join_calls seen near _ _ (by rw [two_lit]; exact Blk.new _ _ _)).mono ?_
        rintro e w7 ⟨rfl, hB7⟩
        have hls7 := (hls6.alloc _).step hB7
        have hBw7 : Below w.heap.size w w7 := below_step (hBw6.alloc hBw6.size _) (by have := hBw6.size; simp; omega) hB7
        clear hB7 hls6 hBw6 n0 n1 n2 n3 n7 s0 s1 s2 s3 s5 q5 q6
        obtain ⟨⟨n0, n1, n2, n3⟩, _, n5⟩ := hls7.nearB.row
        obtain ⟨⟨s0, s1, s2, s3⟩, ⟨f0, f1, f2, f3⟩, s5⟩ := hls7.seenB.row
        have hNs : N ≠ w1.heap.size := by have := hls7.hN; omega
        go_wp2_with fail
        have hsz : ((((w7.setCell ⟨w1.heap.size, 0, none⟩ (.int .u64 ((wd (seen ||| near) 0 : Nat) : Int))).setCell ⟨w1.heap.size, 1, none⟩ (.int .u64 ((wd (seen ||| near) 1 : Nat) : Int))).setCell ⟨w1.heap.size, 2, none⟩ (.int .u64 ((wd (seen ||| near) 2 : Nat) : Int))).setCell ⟨w1.heap.size, 3, none⟩ (.int .u64 ((wd (seen ||| near) 3 : Nat) : Int))).heap.size = w7.heap.size := by simp [World.setCell]
        have hls8 := (hls7.setSeen (by omega) (seen ||| near)).renew
        rw [hsz] at hls8
        obtain ⟨X, hX⟩ : ∃ X, ((((w7.setCell ⟨w1.heap.size, 0, none⟩ (.int .u64 ((wd (seen ||| near) 0 : Nat) : Int))).setCell ⟨w1.heap.size, 1, none⟩ (.int .u64 ((wd (seen ||| near) 1 : Nat) : Int))).setCell ⟨w1.heap.size, 2, none⟩ (.int .u64 ((wd (seen ||| near) 2 : Nat) : Int))).setCell ⟨w1.heap.size, 3, none⟩ (.int .u64 ((wd (seen ||| near) 3 : Nat) : Int))).alloc (.cells #[.int .u64 ((wd near 0 : Nat) : Int), .int .u64 ((wd near 1 : Nat) : Int), .int .u64 ((wd near 2 : Nat) : Int), .int .u64 ((wd near 3 : Nat) : Int)] 71) = X := ⟨_, rfl⟩
        have hls9 : LS w2.heap.size w1.heap.size b c b2 c2 L (seen ||| near) near w7.heap.size v' (d ++ [near]) X := by rw [← hX]; exact hls8
        have hBX : Below w.heap.size w X := by rw [← hX]; exact (below_setRow hBw7 (by omega) _ _ _ _ _ _ _ _).alloc (by rw [hsz]; exact hBw7.size) _
        rw [hX]
        clear hX hls8 hsz hls7 hBw7 n0 n1 n2 n3 n5 s0 s1 s2 s3 s5 f0 f1 f2 f3
        obtain ⟨⟨n0, n1, n2, n3⟩, _, n5⟩ := hls9.nearB.row
        obtain ⟨⟨s0, s1, s2, s3⟩, _, s5⟩ := hls9.seenB.row
        go_region_with (first | (go_at_call 46; refine (step_calls b2 c2 (invL L) near _ hls9.drew.back hls9.drew.tab).mono ?_; rintro e w8 ⟨rfl, hB8⟩; have hlsA := hls9.drew.step hB8; clear n0 n1 n2 n3 s0 s1 s2 s3; obtain ⟨⟨s0, s1, s2, s3⟩, _, s6⟩ := hlsA.seenB.row) | (go_at_call 52; refine (without_calls (joinRows (invL L) (bitsOf near)) (seen ||| near) _).mono ?_; rintro e w9 ⟨rfl, hB9⟩; have hlsB := hlsA.step hB9; clear s0 s1 s2 s3; obtain ⟨⟨n0, n1, n2, n3⟩, ⟨f0, f1, f2, f3⟩, n6⟩ := hlsB.nearB.row))
        all_goals
          go_wp2_with fail
          have hBw9 : Below w.heap.size w w9 := below_step (below_step hBX hBX.size (below_of_drew' hB8)) (Nat.le_trans hBX.size hB8.size) hB9
          have hc1 := HC.out.2.2.2.1
          have hc2 := HC.out.2.2.2.2.1
          have hc3 := cnt_pos HC.out.1 Hz.out
          have hc4 := cnt_or (n := L.length) (and_comm_zero HC.out.2.2.1)
          have hc5 := cnt_le L.length (seen ||| near)
          go_roundg (L.length - cnt L.length (seen ||| near))
          case measure => omega
          case rel =>
            refine ⟨seen ||| near, ldiff (joinRows (invL L) (bitsOf near)) (seen ||| near), w7.heap.size, d ++ [near], rfl, hlsB.setNear _, below_setRow hBw9 ?_ _ _ _ _ _ _ _ _, ldiff_lt (joinRows_lt HI.out _), or_lt HC.out.2.1 HC.out.1, ldiff_disjoint _ _, by simp; omega, by omega, fun rest hr => ?_⟩
            · have := hls9.hN; have := hw2.size; omega
            · have := HC.out.2.2.2.2.2 (near :: rest) ⟨Hz.out, rfl, fun _ => hr, fun e => absurd Hh.out e⟩
              simpa using this
    · have Hz : Hid (near = 0) := eq_of_beq hz
      go_wp2_with fail
      go_ret
      refine ⟨u7, d, rfl, ownsRow_le hls3.own (by omega), ?_, by have := HC.out.2.2.2.1; have := cnt_le L.length seen; omega, hBw3⟩
      have := HC.out.2.2.2.2.2 [] Hz.out
      rwa [List.append_nil] at this
end Go.Proofs.YtpflelkdkpabbaaDoor
