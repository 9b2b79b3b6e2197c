/- The contracts of the document's own At, Irreflexive, Within and Equal. -/
import Derived.Test.YtogifpilfckenaaDoorJ14
import Derived.Test.YtogifpilfckenaaDoorPairsWalk
namespace Go.Proofs.YtogifpilfckenaaDoor
open Go.RowKit Go.Shelf Sx

/-- A list of truths that was handed in. -/
def SetArg (w : World) (v : Value) (l : List Bool) : Prop := (∃ a cap, v = .slice a 0 cap ∧ l = []) ∨ ∃ s o cap, v = .slice (some ⟨s, o, none⟩) l.length cap ∧ s < w.heap.size ∧ ∀ (i : Nat) (x : Bool), l[i]? = some x → w.cell? ⟨s, o + i, none⟩ = some (.bool x)
theorem SetArg.below {w w' : World} {v : Value} {l : List Bool} (h : SetArg w v l) (hb : Below w.heap.size w w') : SetArg w' v l := by
  rcases h with h | ⟨s, o, cap, h1, h2, h3⟩
  · exact .inl h
  · exact .inr ⟨s, o, cap, h1, Nat.lt_of_lt_of_le h2 hb.size, fun i x hx => (hb.cell (p := ⟨s, o + i, none⟩) h2).trans (h3 i x hx)⟩

set_option maxHeartbeats 1000000 in
theorem refAt_calls (v : Value) (l : List Bool) (p : Nat) (w : World) (h : SetArg w v l) :
    Calls Tryd.prog 81 #[v, .int .i64 ((p : Nat) : Int)] w fun e w' => e = .returned (.bool (l.getD p false)) ∧ Below w.heap.size w w' := by
  have hv : ∃ a cap, v = .slice a l.length cap := by
    rcases h with ⟨a, cap, rfl, rfl⟩ | ⟨s, o, cap, rfl, _⟩
    · exact ⟨_, _, rfl⟩
    · exact ⟨_, _, rfl⟩
  by_cases hp : p < l.length
  · obtain ⟨s, o, cap, rfl, _, hc⟩ : ∃ s o cap, v = .slice (some ⟨s, o, none⟩) l.length cap ∧ s < w.heap.size ∧ ∀ (i : Nat) (x : Bool), l[i]? = some x → w.cell? ⟨s, o + i, none⟩ = some (.bool x) := by
      rcases h with ⟨a, cap, _, rfl⟩ | h
      · simp at hp
      · exact h
    have hx := hc p _ (List.getElem?_eq_getElem hp)
    have e : l.getD p false = l[p] := by rw [List.getD_eq_getElem?_getD, List.getElem?_eq_getElem hp]; rfl
    rw [e]
    clear e hc h hv
    generalize l[p] = b at *
    go_enter Tryd.func81, Tryd.ntmps81
    go_wp2_with fail
    go_ret
    exact ⟨rfl, Below.refl _ _⟩
  · obtain ⟨a, cap, rfl⟩ := hv
    have e : l.getD p false = false := by rw [List.getD_eq_getElem?_getD, List.getElem?_eq_none (by omega)]; rfl
    rw [e]
    clear e h
    go_enter Tryd.func81, Tryd.ntmps81
    go_wp2_with fail
    go_ret
    exact ⟨rfl, Below.refl _ _⟩

def irrF (n : Nat) (F : Nat → Nat → Bool) : Bool := (List.range n).all fun p => !F p p
theorem irrF_false {n p : Nat} {F : Nat → Nat → Bool} (hp : p < n) (h : F p p = true) : irrF n F = false := by
  unfold irrF
  rw [List.all_eq_false]
  exact ⟨p, by simpa using hp, by simp [h]⟩
theorem irrF_true {n : Nat} {F : Nat → Nat → Bool} (h : ∀ p, p < n → F p p = false) : irrF n F = true := by
  unfold irrF
  rw [List.all_eq_true]
  intro p hp
  simp [h p (by simpa using hp)]
set_option maxHeartbeats 1000000 in
theorem refIrr_calls (lo n : Nat) (hn : n ≤ 256) (x : Option Addr) (y z : Nat) (rb : Nat → Nat) (F : Nat → Nat → Bool) (w : World) (h : RefM lo w (.slice x y z) n n rb F) (v : Bool) (Hv : Hid (irrF n F = v)) :
    Calls Tryd.prog 71 #[.agg #[.int .i64 ((n : Nat) : Int), .slice x y z]] w fun e w' => e = .returned (.bool v) ∧ Below w.heap.size w w' := by
  have hB0 : Below w.heap.size w (w.alloc (.cells #[.int .i64 ((n : Nat) : Int), .slice x y z] 46)) := (Below.refl _ _).alloc (Nat.le_refl _) _
  have hb0 := Blk.new w 46 #[.int .i64 ((n : Nat) : Int), .slice x y z]
  have h0 := h.below hB0
  go_enter Tryd.func71, Tryd.ntmps71
  go_wp2_with fail
  generalize w.alloc (.cells #[.int .i64 ((n : Nat) : Int), .slice x y z] 46) = W at *
  have c0 := hb0.cell (j := 0) rfl
  have c1 := hb0.cell (j := 1) rfl
  go_loopw [3] (fun i wr => ∃ k, k ≤ n ∧ i = .int .i64 ((k : Nat) : Int) ∧ wr = W ∧ Hid (∀ p, p < k → F p p = false)) (fun i _ => n - (intOf i).toNat)
  case atStart => exact ⟨0, by omega, rfl, rfl, fun p hp => by omega⟩
  case round =>
    obtain ⟨k, hk, rfl, rfl, HF⟩ := hrel
    by_cases hlt : k < n
    · obtain ⟨g, cap, e, _, _, _, d0, d1, _, _⟩ := h0.at_ hlt hlt
      cases e
      cases hf : F k k
      · rw [hf] at d1
        have HF2 : Hid (∀ p, p < k + 1 → F p p = false) := by
          intro p hp
          by_cases e : p = k
          · rw [e]; exact hf
          · exact HF.out p (by omega)
        clear hf
        go_wp2_with fail
        refine ⟨⟨k + 1, by omega, by go_num, by first | rfl | trivial, HF2⟩, by simp [intOf]; omega⟩
      · rw [hf] at d1
        obtain rfl : v = false := by rw [← Hv.out]; exact irrF_false hlt hf
        clear hf
        go_wp2_with fail
        go_ret
        exact ⟨rfl, hB0⟩
    · have e : n = k := by omega
      subst e
      obtain rfl : v = true := by rw [← Hv.out]; exact irrF_true HF.out
      go_wp2_with fail
      go_ret
      exact ⟨rfl, hB0⟩

def withinF (n m : Nat) (F G : Nat → Nat → Bool) : Bool := (List.range n).all fun p => (List.range n).all fun q => !F p q || extF m G p q
theorem withinF_false {n m p q : Nat} {F G : Nat → Nat → Bool} (hp : p < n) (hq : q < n) (h : F p q = true) (hg : extF m G p q = false) : withinF n m F G = false := by
  unfold withinF
  rw [List.all_eq_false]
  refine ⟨p, by simpa using hp, ?_⟩
  rw [Bool.not_eq_true, List.all_eq_false]
  exact ⟨q, by simpa using hq, by simp [h, hg]⟩
theorem withinF_true {n m : Nat} {F G : Nat → Nat → Bool} (h : ∀ p q, p < n → q < n → F p q = true → extF m G p q = true) : withinF n m F G = true := by
  unfold withinF
  rw [List.all_eq_true]
  intro p hp
  rw [List.all_eq_true]
  intro q hq
  have := h p q (by simpa using hp) (by simpa using hq)
  cases hf : F p q
  · rfl
  · simp [this hf]
/-- What Within's loops find. -/
structure WinAt (w W : World) (n m : Nat) (A B : Value) : Prop where
  below : Below w.heap.size w W
  fst : Blk W w.heap.size 46 #[.int .i64 ((n : Nat) : Int), A]
  snd : Blk W (w.heap.size + 1) 46 #[.int .i64 ((m : Nat) : Int), B]
theorem WinAt.step {w W W' : World} {n m : Nat} {A B : Value} (h : WinAt w W n m A B) (hB : Below W.heap.size W W') : WinAt w W' n m A B :=
  ⟨below_step h.below h.below.size hB, h.fst.of_below hB, h.snd.of_below hB⟩
set_option maxRecDepth 100000 in
set_option maxHeartbeats 4000000 in
theorem refWithin_at (lo lo2 n m : Nat) (hn : n ≤ 256) (x : Option Addr) (y z : Nat) (rb : Nat → Nat) (F : Nat → Nat → Bool) (x1 : Option Addr) (y1 z1 : Nat) (rb1 : Nat → Nat) (G : Nat → Nat → Bool) (w : World)
    (h : RefM lo w (.slice x y z) n n rb F) (h1 : RefM lo2 w (.slice x1 y1 z1) m m rb1 G) (v : Bool) (Hv : Hid (withinF n m F G = v)) :
    Calls Tryd.prog 73 #[.agg #[.int .i64 ((n : Nat) : Int), .slice x y z], .agg #[.int .i64 ((m : Nat) : Int), .slice x1 y1 z1]] w fun e w' => e = .returned (.bool v) ∧ Below w.heap.size w w' := by
  have hA : WinAt w ((w.alloc (.cells #[.int .i64 ((n : Nat) : Int), .slice x y z] 46)).alloc (.cells #[.int .i64 ((m : Nat) : Int), .slice x1 y1 z1] 46)) n m (.slice x y z) (.slice x1 y1 z1) :=
    ⟨((Below.refl _ _).alloc (Nat.le_refl _) _).alloc (by simp) _, (Blk.new w _ _).alloc _, Blk.new2 w _ _ _⟩
  go_enter Tryd.func73, Tryd.ntmps73
  go_wp2_with fail
  go_loopw [5] (fun i wr => ∃ a, a ≤ n ∧ i = .int .i64 ((a : Nat) : Int) ∧ WinAt w wr n m (.slice x y z) (.slice x1 y1 z1) ∧ Hid (∀ p q, p < a → q < n → F p q = true → extF m G p q = true)) (fun i _ => n - (intOf i).toNat)
  case atStart => exact ⟨0, by omega, rfl, hA, fun p q hp => by omega⟩
  case round =>
    clear hA
    obtain ⟨a, ha, rfl, hA, HF⟩ := hrel
    have c0 := hA.fst.cell (j := 0) rfl
    by_cases hlt : a < n
    · go_wp2_with fail
      clear c0
      go_loopw [6] (fun i wr => ∃ b, b ≤ n ∧ i = .int .i64 ((b : Nat) : Int) ∧ WinAt w wr n m (.slice x y z) (.slice x1 y1 z1) ∧ Hid (∀ q, q < b → F a q = true → extF m G a q = true)) (fun i _ => n - (intOf i).toNat)
      case atStart => exact ⟨0, by omega, rfl, hA, fun q hq => by omega⟩
      case round =>
        clear hA
        obtain ⟨b, hb, rfl, hA, HQ⟩ := hrel
        have c0 := hA.fst.cell (j := 0) rfl
        by_cases hlt2 : b < n
        · have c1 := hA.fst.cell (j := 1) rfl
          have k0 := hA.snd.cell (j := 0) rfl
          have k1 := hA.snd.cell (j := 1) rfl
          have hh1 := h1.below hA.below
          obtain ⟨g, cap, e, _, _, _, d0, d1, _, _⟩ := (h.below hA.below).at_ hlt hlt2
          cases e
          cases hf : F a b
          · rw [hf] at d1
            have HQ2 : Hid (∀ q, q < b + 1 → F a q = true → extF m G a q = true) := by
              intro q hq hq2
              by_cases e : q = b
              · rw [e, hf] at hq2; cases hq2
              · exact HQ.out q (by omega) hq2
            clear hf
            go_wp2_with fail
            refine ⟨⟨b + 1, by omega, by go_num, hA, HQ2⟩, by simp [intOf]; omega⟩
          · rw [hf] at d1
            have Hf : Hid (F a b = true) := hf
            clear hf
            go_wp2_with fail
            refine (refHas_calls lo2 m x1 y1 z1 rb1 G _ _ _ hh1).mono ?_
            rw [hasF_nat]
            rintro e w5 ⟨rfl, hB5⟩
            have hA5 := hA.step hB5
            clear c0 c1 k0 k1 d0 d1 hh1
            cases hg : extF m G a b
            · obtain rfl : v = false := by rw [← Hv.out]; exact withinF_false hlt hlt2 Hf.out hg
              clear hg
              go_wp2_with fail
              go_ret
              exact ⟨rfl, hA5.below⟩
            · have HQ2 : Hid (∀ q, q < b + 1 → F a q = true → extF m G a q = true) := by
                intro q hq hq2
                by_cases e : q = b
                · rw [e]; exact hg
                · exact HQ.out q (by omega) hq2
              clear hg
              go_wp2_with fail
              refine ⟨⟨b + 1, by omega, by go_num, hA5, HQ2⟩, by simp [intOf]; omega⟩
        · have e : n = b := by omega
          subst e
          have HF2 : Hid (∀ p q, p < a + 1 → q < n → F p q = true → extF m G p q = true) := by
            intro p q hp hq hf
            by_cases e : p = a
            · rw [e] at hf ⊢; exact HQ.out q hq hf
            · exact HF.out p q (by omega) hq hf
          go_wp2_with fail
          refine ⟨⟨a + 1, by omega, by go_num, hA, HF2⟩, by simp [intOf]; omega⟩
    · have e : n = a := by omega
      subst e
      obtain rfl : v = true := by rw [← Hv.out]; exact withinF_true HF.out
      go_wp2_with fail
      go_ret
      exact ⟨rfl, hA.below⟩
def equalF (n m : Nat) (F G : Nat → Nat → Bool) : Bool := decide (n = m) && (withinF n m F G && withinF m n G F)
set_option maxHeartbeats 2000000 in
theorem refEqual_calls (lo lo2 n m : Nat) (hn : n ≤ 256) (hm : m ≤ 256) (x : Option Addr) (y z : Nat) (rb : Nat → Nat) (F : Nat → Nat → Bool) (x1 : Option Addr) (y1 z1 : Nat) (rb1 : Nat → Nat) (G : Nat → Nat → Bool) (w : World)
    (h : RefM lo w (.slice x y z) n n rb F) (h1 : RefM lo2 w (.slice x1 y1 z1) m m rb1 G) :
    Calls Tryd.prog 72 #[.agg #[.int .i64 ((n : Nat) : Int), .slice x y z], .agg #[.int .i64 ((m : Nat) : Int), .slice x1 y1 z1]] w fun e w' => e = .returned (.bool (equalF n m F G)) ∧ Below w.heap.size w w' := by
  have hA : WinAt w ((w.alloc (.cells #[.int .i64 ((n : Nat) : Int), .slice x y z] 46)).alloc (.cells #[.int .i64 ((m : Nat) : Int), .slice x1 y1 z1] 46)) n m (.slice x y z) (.slice x1 y1 z1) :=
    ⟨((Below.refl _ _).alloc (Nat.le_refl _) _).alloc (by simp) _, (Blk.new w _ _).alloc _, Blk.new2 w _ _ _⟩
  by_cases e : n = m
  · subst e
    cases hv : withinF n n F G
    · rw [show equalF n n F G = false by unfold equalF; simp [hv]]
      have hb : (((n : Nat) : Int) == ((n : Nat) : Int)) = true := by simp
      go_enter Tryd.func72, Tryd.ntmps72
      go_wp2_with fail
      refine (refWithin_at lo lo2 n n hn x y z rb F x1 y1 z1 rb1 G _ (h.below hA.below) (h1.below hA.below) false hv).mono ?_
      rintro e w1 ⟨rfl, hB1⟩
      go_wp2_with fail
      go_ret
      exact ⟨rfl, (hA.step hB1).below⟩
    · cases hv2 : withinF n n G F
      · rw [show equalF n n F G = false by unfold equalF; simp [hv, hv2]]
        have hb : (((n : Nat) : Int) == ((n : Nat) : Int)) = true := by simp
        go_enter Tryd.func72, Tryd.ntmps72
        go_wp2_with fail
        refine (refWithin_at lo lo2 n n hn x y z rb F x1 y1 z1 rb1 G _ (h.below hA.below) (h1.below hA.below) true hv).mono ?_
        rintro e w1 ⟨rfl, hB1⟩
        have hA1 := hA.step hB1
        have c0 := hA1.fst.cell (j := 0) rfl
        have c1 := hA1.fst.cell (j := 1) rfl
        have k0 := hA1.snd.cell (j := 0) rfl
        have k1 := hA1.snd.cell (j := 1) rfl
        go_wp2_with fail
        refine (refWithin_at lo2 lo n n hn x1 y1 z1 rb1 G x y z rb F _ (h1.below hA1.below) (h.below hA1.below) false hv2).mono ?_
        rintro e w2 ⟨rfl, hB2⟩
        go_wp2_with fail
        go_ret
        exact ⟨rfl, (hA1.step hB2).below⟩
      · rw [show equalF n n F G = true by unfold equalF; simp [hv, hv2]]
        have hb : (((n : Nat) : Int) == ((n : Nat) : Int)) = true := by simp
        go_enter Tryd.func72, Tryd.ntmps72
        go_wp2_with fail
        refine (refWithin_at lo lo2 n n hn x y z rb F x1 y1 z1 rb1 G _ (h.below hA.below) (h1.below hA.below) true hv).mono ?_
        rintro e w1 ⟨rfl, hB1⟩
        have hA1 := hA.step hB1
        have c0 := hA1.fst.cell (j := 0) rfl
        have c1 := hA1.fst.cell (j := 1) rfl
        have k0 := hA1.snd.cell (j := 0) rfl
        have k1 := hA1.snd.cell (j := 1) rfl
        go_wp2_with fail
        refine (refWithin_at lo2 lo n n hn x1 y1 z1 rb1 G x y z rb F _ (h1.below hA1.below) (h.below hA1.below) true hv2).mono ?_
        rintro e w2 ⟨rfl, hB2⟩
        go_wp2_with fail
        go_ret
        exact ⟨rfl, (hA1.step hB2).below⟩
  · rw [show equalF n m F G = false by unfold equalF; simp [e]]
    have hb : (((n : Nat) : Int) == ((m : Nat) : Int)) = false := by rw [beq_eq_false_iff_ne]; omega
    go_enter Tryd.func72, Tryd.ntmps72
    go_wp2_with fail
    go_ret
    exact ⟨rfl, hA.below⟩
end Go.Proofs.YtogifpilfckenaaDoor
/- The contract of the document's own Image. -/
namespace Go.Proofs.YtogifpilfckenaaDoor
open Go.RowKit Go.Shelf Sx

def imgFn (l : List Bool) (F : Nat → Nat → Bool) : Nat → Nat → Bool
  | 0 => fun _ => false
  | p + 1 => fun y => imgFn l F p y || (l.getD p false && F p y)
theorem imgFn_succ (l : List Bool) (F : Nat → Nat → Bool) (p y : Nat) : imgFn l F (p + 1) y = (imgFn l F p y || (l.getD p false && F p y)) := rfl
def mixT (G T : Nat → Bool) (q : Nat) : Nat → Bool := fun y => if y < q then G y else T y
theorem mixT_zero (G T : Nat → Bool) (y : Nat) : mixT G T 0 y = T y := by unfold mixT; rw [if_neg (by omega)]
theorem mixT_at (G T : Nat → Bool) (q : Nat) : mixT G T q q = T q := by unfold mixT; rw [if_neg (by omega)]
theorem mixT_put (G T : Nat → Bool) (q y : Nat) : (if y = q then G q else mixT G T q y) = mixT G T (q + 1) y := by
  unfold mixT
  by_cases e : y = q
  · subst e; rw [if_pos rfl, if_pos (by omega)]
  · rw [if_neg e]
    by_cases h : y < q
    · rw [if_pos h, if_pos (by omega)]
    · rw [if_neg h, if_neg (by omega)]
structure ImAt (w W : World) (N : Nat) (A : Value) (T : Nat → Bool) : Prop where
  below : Below w.heap.size w W
  box : Blk W w.heap.size 46 #[.int .i64 ((N : Nat) : Int), A]
  row : Blk W (w.heap.size + 1) 4 (arrB (rowL N T))
theorem ImAt.step {w W W' : World} {N : Nat} {A : Value} {T : Nat → Bool} (h : ImAt w W N A T) (hB : Below W.heap.size W W') : ImAt w W' N A T :=
  ⟨below_step h.below h.below.size hB, h.box.of_below hB, h.row.of_below hB⟩
theorem ImAt.congr {w W : World} {N : Nat} {A : Value} {T T' : Nat → Bool} (h : ImAt w W N A T) (ht : ∀ y, y < N → T y = T' y) : ImAt w W N A T' :=
  ⟨h.below, h.box, by rw [← rowL_congr ht]; exact h.row⟩
theorem ImAt.put {w W : World} {N : Nat} {A : Value} {T : Nat → Bool} (h : ImAt w W N A T) {q : Nat} (hq : q < N) (b : Bool) : ImAt w (W.setCell ⟨w.heap.size + 1, q, none⟩ (.bool b)) N A (fun y => if y = q then b else T y) := by
  refine ⟨h.below.setCell (by simp) _, h.box.setOther (by simp) _, ?_⟩
  have := h.row.set q (.bool b)
  rwa [rowL_set b hq] at this

set_option maxRecDepth 100000 in
set_option maxHeartbeats 4000000 in
theorem refImage_calls (lo N : Nat) (hN : N ≤ 256) (x : Option Addr) (y z : Nat) (rb : Nat → Nat) (F : Nat → Nat → Bool) (v : Value) (l : List Bool) (w : World) (h : RefM lo w (.slice x y z) N N rb F) (hS : SetArg w v l) :
    Calls Tryd.prog 69 #[.agg #[.int .i64 ((N : Nat) : Int), .slice x y z], v] w fun e w' => ∃ lb, e = .returned (.slice (some ⟨lb, 0, none⟩) N N) ∧ w.heap.size ≤ lb ∧ Blk w' lb 4 (arrB (rowL N (imgFn l F N))) ∧ Below w.heap.size w w' := by
  have hmk := make_bools N hN
  have hA : ImAt w ((w.alloc (.cells #[.int .i64 ((N : Nat) : Int), .slice x y z] 46)).alloc (.cells (arrB (List.replicate N false)) 4)) N (.slice x y z) (imgFn l F 0) :=
    ⟨((Below.refl _ w).alloc (Nat.le_refl _) _).alloc (by simp) _, (Blk.new w _ _).alloc _, by rw [show imgFn l F 0 = fun _ => false from rfl, rowL_false]; exact Blk.new2 w _ _ _⟩
  go_enter Tryd.func69, Tryd.ntmps69
  go_wp2_with fail
  clear hmk
  go_loopw [6] (fun i wr => ∃ p, p ≤ N ∧ i = .int .i64 ((p : Nat) : Int) ∧ ImAt w wr N (.slice x y z) (imgFn l F p)) (fun i _ => N - (intOf i).toNat)
  case atStart => exact ⟨0, by omega, rfl, hA⟩
  case round =>
    clear hA
    obtain ⟨p, hp, rfl, hA⟩ := hrel
    have c0 := hA.box.cell (j := 0) rfl
    by_cases hlt : p < N
    · cases hv : l.getD p false
      · have Hv : Hid (l.getD p false = false) := hv
        have hA2 := hA.congr (T' := imgFn l F (p + 1)) (fun y _ => by rw [imgFn_succ, Hv.out]; simp)
        clear hA hv
        go_wp2_with fail
        clear c0
        go_loopw [7] (fun i wr => i = .int .i64 0 ∧ ImAt w wr N (.slice x y z) (imgFn l F (p + 1))) (fun _ _ => 0)
        case atStart => exact ⟨rfl, hA2⟩
        case round =>
          clear hA2
          obtain ⟨rfl, hA⟩ := hrel
          go_wp2_with fail
          refine (refAt_calls v l p _ (hS.below hA.below)).mono ?_
          rw [Hv.out]
          rintro e w5 ⟨rfl, hB5⟩
          have hA5 := hA.step hB5
          go_wp2_with fail
          refine ⟨⟨p + 1, by omega, by go_num, hA5⟩, by simp [intOf]; omega⟩
      · have Hv : Hid (l.getD p false = true) := hv
        have hA2 := hA.congr (T' := mixT (imgFn l F (p + 1)) (imgFn l F p) 0) (fun y _ => (mixT_zero _ _ y).symm)
        clear hA hv
        go_wp2_with fail
        clear c0
        go_loopw [7] (fun i wr => ∃ q, q ≤ N ∧ i = .int .i64 ((q : Nat) : Int) ∧ ImAt w wr N (.slice x y z) (mixT (imgFn l F (p + 1)) (imgFn l F p) q)) (fun i _ => N - (intOf i).toNat)
        case atStart => exact ⟨0, by omega, rfl, hA2⟩
        case round =>
          clear hA2
          obtain ⟨q, hq, rfl, hA⟩ := hrel
          go_wp2_with fail
          refine (refAt_calls v l p _ (hS.below hA.below)).mono ?_
          rw [Hv.out]
          rintro e w5 ⟨rfl, hB5⟩
          have hA5 := hA.step hB5
          clear hA hB5
          have c0 := hA5.box.cell (j := 0) rfl
          by_cases hlt2 : q < N
          · have c1 := hA5.box.cell (j := 1) rfl
            obtain ⟨g, cap, e, _, _, _, d0, d1, _, _⟩ := (h.below hA5.below).at_ hlt hlt2
            cases e
            have u1 := hA5.row.cell (rowL_at hlt2)
            rw [mixT_at] at u1
            have fz := hA5.row.frozen q
            have hval : imgFn l F (p + 1) q = (imgFn l F p q || F p q) := by rw [imgFn_succ, Hv.out, Bool.true_and]
            have hA6 := (hA5.put hlt2 (imgFn l F (p + 1) q)).congr (fun y _ => mixT_put _ _ q y)
            cases hu : imgFn l F p q
            · rw [hval, hu, Bool.false_or] at hA6
              rw [hu] at u1
              clear hval hu
              go_wp2_with fail
              refine ⟨⟨q + 1, by omega, by go_num, hA6⟩, by simp [intOf]; omega⟩
            · rw [hval, hu, Bool.true_or] at hA6
              rw [hu] at u1
              clear hval hu
              go_wp2_with fail
              refine ⟨⟨q + 1, by omega, by go_num, hA6⟩, by simp [intOf]; omega⟩
          · have e : N = q := by omega
            subst e
            have hA6 := hA5.congr (T' := imgFn l F (p + 1)) (fun y hy => by unfold mixT; rw [if_pos hy])
            go_wp2_with fail
            refine ⟨⟨p + 1, by omega, by go_num, hA6⟩, by simp [intOf]; omega⟩
    · have e : N = p := by omega
      subst e
      go_wp2_with fail
      go_ret
      exact ⟨_, rfl, by omega, hA.row, hA.below⟩
end Go.Proofs.YtogifpilfckenaaDoor
/- The contracts of the document's own Opt, Plus and Star. -/
namespace Go.Proofs.YtogifpilfckenaaDoor
open Go.RowKit Go.Shelf Sx

theorem ext_in {n p q : Nat} {F : Nat → Nat → Bool} (hp : p < n) (hq : q < n) : extF n F p q = F p q := by
  unfold extF
  simp [hp, hq]
def optF (F : Nat → Nat → Bool) (k : Nat) : Nat → Nat → Bool := fun p q => F p q || (decide (p = q) && decide (p < k))
theorem optF_zero (F : Nat → Nat → Bool) (p q : Nat) : optF F 0 p q = F p q := by simp [optF]
theorem optF_put (F : Nat → Nat → Bool) (k p q : Nat) : upd (optF F k) k k true p q = optF F (k + 1) p q := by
  unfold upd optF
  by_cases h : p = k ∧ q = k
  · obtain ⟨rfl, rfl⟩ := h
    simp
  · rw [if_neg h]
    congr 1
    by_cases e : p = q
    · subst e
      have : p ≠ k := fun e => h ⟨e, e⟩
      congr 1
      rw [decide_eq_decide]
      omega
    · simp [e]

set_option maxRecDepth 100000 in
set_option maxHeartbeats 4000000 in
theorem refOpt_calls (lo N : Nat) (hN : N ≤ 256) (x : Option Addr) (y z : Nat) (rb : Nat → Nat) (F : Nat → Nat → Bool) (w : World) (h : RefM lo w (.slice x y z) N N rb F) :
    Calls Tryd.prog 66 #[.agg #[.int .i64 ((N : Nat) : Int), .slice x y z]] w fun e w' => ∃ M rb', e = .returned (.agg #[.int .i64 ((N : Nat) : Int), M]) ∧ RefM w.heap.size w' M N N rb' (fun p q => F p q || decide (p = q)) ∧ Below w.heap.size w w' := by
  have HN : Hid (N = max N 0) := by show _ = _; omega
  go_enter Tryd.func66, Tryd.ntmps66
  go_wp2_with fail
  refine (refWide_at lo N hN x y z rb F 0 N (by omega) HN _ ((h.alloc _).alloc _)).mono ?_
  rintro e w1 ⟨M, rbw, rfl, hRM, hB1⟩
  obtain ⟨x2, y2, z2, rfl⟩ := hRM.slice
  have hA : MkAt w (w1.alloc (.cells #[.int .i64 ((N : Nat) : Int), .slice x2 y2 z2] 46)) 2 [(0, #[.int .i64 ((N : Nat) : Int), .slice x y z]), (1, #[.int .i64 0, .slice none 0 0])] w1.heap.size N (.slice x2 y2 z2) rbw (optF F 0) := by
    refine MkAt.begin (((Below.refl _ w).alloc (Nat.le_refl _) _).alloc (by simp) _) (by simp) ?_ (hRM.congr fun p q hp hq => ?_) hB1
    · intro x hx
      simp only [List.mem_cons, List.not_mem_nil, or_false] at hx
      rcases hx with rfl | rfl
      · exact ⟨by omega, (Blk.new w _ _).alloc _⟩
      · exact ⟨by omega, Blk.new2 w _ _ _⟩
    · rw [optF_zero, fill_ext, ext_in hp hq]
  clear hRM hB1
  go_wp2_with fail
  generalize w1.heap.size = B at *
  go_loopw [4] (fun i wr => ∃ a, a ≤ N ∧ i = .int .i64 ((a : Nat) : Int) ∧ MkAt w wr 2 [(0, #[.int .i64 ((N : Nat) : Int), .slice x y z]), (1, #[.int .i64 0, .slice none 0 0])] B N (.slice x2 y2 z2) rbw (optF F a)) (fun i _ => N - (intOf i).toNat)
  case atStart => exact ⟨0, by omega, rfl, hA⟩
  case round =>
    clear hA
    obtain ⟨a, ha, rfl, hA⟩ := hrel
    have c0 := hA.box.cell (j := 0) rfl
    by_cases hlt : a < N
    · have d1 := hA.box.cell (j := 1) rfl
      obtain ⟨g2, cap2, e2, q2, _, n2, s0, s1, fz, q3⟩ := hA.ref.at_ (p := a) (q := a) hlt hlt
      cases e2
      have hA2 := (hA.put (p := a) (q := a) hlt hlt true).congr (G := optF F (a + 1)) (fun p q _ _ => optF_put F a p q)
      go_wp2_with fail
      refine ⟨⟨a + 1, by omega, by go_num, hA2⟩, by simp [intOf]; omega⟩
    · have e : N = a := by omega
      subst e
      have hA := hA.congr (G := fun p q => F p q || decide (p = q)) (fun p q hp hq => by unfold optF; simp [hp])
      have b1 := hA.box.cell (j := 1) rfl
      have hr := hA.snd
      have d0 := hr.cell (j := 0) rfl
      have d1 := hr.cell (j := 1) rfl
      have f0 := hr.frozen 0
      have f1 := hr.frozen 1
      go_wp2_with fail
      have hres := (hr.set 0 (.int .i64 ((N : Nat) : Int))).set 1 (.slice x2 y2 z2)
      simp only [List.setIfInBounds_toArray, List.set_cons_zero, List.set_cons_succ] at hres
      (try simp only [Exit.inBlock, Exit.then])
      refine bodyPost_ret (ret_ref rfl rfl hres) rfl ?_
      obtain ⟨hA1, hB1⟩ := hA.answer (r := 1) (by omega)
      first | exact ⟨_, rbw, rfl, hA1, hB1⟩ | exact ⟨_, rfl, ⟨rbw, hA1⟩, hB1⟩

def plusFn (F : Nat → Nat → Bool) : Nat → Nat → Nat → Bool
  | 0 => F
  | k + 1 => fun p q => plusFn F k p q || (plusFn F k p k && plusFn F k k q)
theorem plusFn_succ (F : Nat → Nat → Bool) (k p q : Nat) : plusFn F (k + 1) p q = (plusFn F k p q || (plusFn F k p k && plusFn F k k q)) := rfl
theorem plusFn_col (F : Nat → Nat → Bool) (k p : Nat) : plusFn F (k + 1) p k = plusFn F k p k := by
  rw [plusFn_succ]
  cases plusFn F k p k <;> simp
theorem plusFn_row (F : Nat → Nat → Bool) (k q : Nat) : plusFn F (k + 1) k q = plusFn F k k q := by
  rw [plusFn_succ]
  cases plusFn F k k q <;> simp
theorem fill_col (F : Nat → Nat → Bool) (N k p q x : Nat) : fillF (plusFn F (k + 1)) (plusFn F k) N p q x k = plusFn F k x k := by
  unfold fillF
  split
  · exact plusFn_col F k x
  · rfl
theorem fill_row (F : Nat → Nat → Bool) (N k p q y : Nat) : fillF (plusFn F (k + 1)) (plusFn F k) N p q k y = plusFn F k k y := by
  unfold fillF
  split
  · exact plusFn_row F k y
  · rfl
theorem fill_still (F : Nat → Nat → Bool) (N k p : Nat) (h : plusFn F k p k = false) (x y : Nat) : fillF (plusFn F (k + 1)) (plusFn F k) N p 0 x y = fillF (plusFn F (k + 1)) (plusFn F k) N (p + 1) 0 x y := by
  unfold fillF
  by_cases h1 : x < p ∧ y < N
  · rw [if_pos (by omega), if_pos (by omega)]
  · rw [if_neg (by omega)]
    by_cases h2 : x = p ∧ y < N
    · rw [if_pos (by omega), plusFn_succ, h2.1, h]
      simp
    · rw [if_neg (by omega)]

set_option maxRecDepth 100000 in
set_option maxHeartbeats 8000000 in
theorem refPlus_calls (lo N : Nat) (hN : N ≤ 256) (x : Option Addr) (y z : Nat) (rb : Nat → Nat) (F : Nat → Nat → Bool) (w : World) (h : RefM lo w (.slice x y z) N N rb F) :
    Calls Tryd.prog 64 #[.agg #[.int .i64 ((N : Nat) : Int), .slice x y z]] w fun e w' => ∃ M rb', e = .returned (.agg #[.int .i64 ((N : Nat) : Int), M]) ∧ RefM w.heap.size w' M N N rb' (plusFn F N) ∧ Below w.heap.size w w' := by
  have HN : Hid (N = max N 0) := by show _ = _; omega
  go_enter Tryd.func64, Tryd.ntmps64
  go_wp2_with fail
  refine (refWide_at lo N hN x y z rb F 0 N (by omega) HN _ ((h.alloc _).alloc _)).mono ?_
  rintro e w1 ⟨M, rbw, rfl, hRM, hB1⟩
  obtain ⟨x2, y2, z2, rfl⟩ := hRM.slice
  have hA : MkAt w (w1.alloc (.cells #[.int .i64 ((N : Nat) : Int), .slice x2 y2 z2] 46)) 2 [(0, #[.int .i64 ((N : Nat) : Int), .slice x y z]), (1, #[.int .i64 0, .slice none 0 0])] w1.heap.size N (.slice x2 y2 z2) rbw (plusFn F 0) := by
    refine MkAt.begin (((Below.refl _ w).alloc (Nat.le_refl _) _).alloc (by simp) _) (by simp) ?_ (hRM.congr fun p q hp hq => ?_) hB1
    · intro x hx
      simp only [List.mem_cons, List.not_mem_nil, or_false] at hx
      rcases hx with rfl | rfl
      · exact ⟨by omega, (Blk.new w _ _).alloc _⟩
      · exact ⟨by omega, Blk.new2 w _ _ _⟩
    · rw [fill_ext, ext_in hp hq]
      rfl
  clear hRM hB1
  go_wp2_with fail
  generalize w1.heap.size = B at *
  go_loopw [4] (fun i wr => ∃ k, k ≤ N ∧ i = .int .i64 ((k : Nat) : Int) ∧ MkAt w wr 2 [(0, #[.int .i64 ((N : Nat) : Int), .slice x y z]), (1, #[.int .i64 0, .slice none 0 0])] B N (.slice x2 y2 z2) rbw (plusFn F k)) (fun i _ => N - (intOf i).toNat)
  case atStart => exact ⟨0, by omega, rfl, hA⟩
  case round =>
    clear hA
    obtain ⟨k, hk, rfl, hA⟩ := hrel
    have c0 := hA.box.cell (j := 0) rfl
    by_cases hlt : k < N
    · rw [← fillF_zero (plusFn F (k + 1)) (plusFn F k) N] at hA
      go_wp2_with fail
      clear c0
      go_loopw [5] (fun i wr => ∃ p, p ≤ N ∧ i = .int .i64 ((p : Nat) : Int) ∧ MkAt w wr 2 [(0, #[.int .i64 ((N : Nat) : Int), .slice x y z]), (1, #[.int .i64 0, .slice none 0 0])] B N (.slice x2 y2 z2) rbw (fillF (plusFn F (k + 1)) (plusFn F k) N p 0)) (fun i _ => N - (intOf i).toNat)
      case atStart => exact ⟨0, by omega, rfl, hA⟩
      case round =>
        clear hA
        obtain ⟨p, hp, rfl, hA⟩ := hrel
        have c0 := hA.box.cell (j := 0) rfl
        by_cases hlt2 : p < N
        · cases hv : plusFn F k p k
          · have hA2 := hA.congr (fun x y _ _ => fill_still F N k p hv x y)
            have Hv : Hid (plusFn F k p k = false) := hv
            clear hA hv
            go_wp2_with fail
            clear c0
            go_loopw [6] (fun i wr => i = .int .i64 0 ∧ MkAt w wr 2 [(0, #[.int .i64 ((N : Nat) : Int), .slice x y z]), (1, #[.int .i64 0, .slice none 0 0])] B N (.slice x2 y2 z2) rbw (fillF (plusFn F (k + 1)) (plusFn F k) N (p + 1) 0)) (fun _ _ => 0)
            case atStart => exact ⟨rfl, hA2⟩
            case round =>
              clear hA2
              obtain ⟨rfl, hA⟩ := hrel
              have d1 := hA.box.cell (j := 1) rfl
              obtain ⟨g2, cap2, e2, _, _, _, s0, s1, _, _⟩ := hA.ref.at_ (p := p) (q := k) hlt2 hlt
              cases e2
              rw [fill_col, Hv.out] at s1
              go_wp2_with fail
              refine ⟨⟨p + 1, by omega, by go_num, hA⟩, by simp [intOf]; omega⟩
          · have Hv : Hid (plusFn F k p k = true) := hv
            clear hv
            go_wp2_with fail
            clear c0
            go_loopw [6] (fun i wr => ∃ q, q ≤ N ∧ i = .int .i64 ((q : Nat) : Int) ∧ MkAt w wr 2 [(0, #[.int .i64 ((N : Nat) : Int), .slice x y z]), (1, #[.int .i64 0, .slice none 0 0])] B N (.slice x2 y2 z2) rbw (fillF (plusFn F (k + 1)) (plusFn F k) N p q)) (fun i _ => N - (intOf i).toNat)
            case atStart => exact ⟨0, by omega, rfl, hA⟩
            case round =>
              clear hA
              obtain ⟨q, hq, rfl, hA⟩ := hrel
              have c0 := hA.box.cell (j := 0) rfl
              have d1 := hA.box.cell (j := 1) rfl
              obtain ⟨g2, cap2, e2, _, _, _, s0, s1, _, _⟩ := hA.ref.at_ (p := p) (q := k) hlt2 hlt
              rw [fill_col, Hv.out] at s1
              by_cases hlt3 : q < N
              · obtain ⟨g3, cap3, e3, _, _, _, t0, t1, _, _⟩ := hA.ref.at_ (p := k) (q := q) hlt hlt3
                obtain ⟨g4, cap4, e4, _, _, n4, u0, u1, fz, _⟩ := hA.ref.at_ (p := p) (q := q) hlt2 hlt3
                cases e2
                cases e3
                cases e4
                rw [fill_row] at t1
                rw [fillF_at] at u1
                have hval : plusFn F (k + 1) p q = (plusFn F k p q || plusFn F k k q) := by rw [plusFn_succ, Hv.out, Bool.true_and]
                have hA2 := hA.drew.put (p := p) (q := q) hlt2 hlt3 (plusFn F k p q || plusFn F k k q)
                rw [← hval, fillF_put] at hA2
                cases hu : plusFn F k p q
                · rw [hval, hu, Bool.false_or] at hA2
                  rw [hu] at u1
                  clear hval hu
                  go_wp2_with fail
                  go_region
                  all_goals
                    go_wp2_with fail
                    refine ⟨⟨q + 1, by omega, by go_num, hA2⟩, by simp [intOf]; omega⟩
                · rw [hval, hu, Bool.true_or] at hA2
                  rw [hu] at u1
                  clear hval hu
                  go_wp2_with fail
                  go_region
                  all_goals
                    go_wp2_with fail
                    refine ⟨⟨q + 1, by omega, by go_num, hA2⟩, by simp [intOf]; omega⟩
              · have e : N = q := by omega
                subst e
                cases e2
                rw [fillF_row] at hA
                go_wp2_with fail
                refine ⟨⟨p + 1, by omega, by go_num, hA⟩, by simp [intOf]; omega⟩
        · have e : N = p := by omega
          subst e
          have hA2 := hA.congr (G := plusFn F (k + 1)) (fun x y hx hy => fillF_full hx hy)
          go_wp2_with fail
          refine ⟨⟨k + 1, by omega, by go_num, hA2⟩, by simp [intOf]; omega⟩
    · have e : N = k := by omega
      subst e
      have b1 := hA.box.cell (j := 1) rfl
      have hr := hA.snd
      have d0 := hr.cell (j := 0) rfl
      have d1 := hr.cell (j := 1) rfl
      have f0 := hr.frozen 0
      have f1 := hr.frozen 1
      go_wp2_with fail
      have hres := (hr.set 0 (.int .i64 ((N : Nat) : Int))).set 1 (.slice x2 y2 z2)
      simp only [List.setIfInBounds_toArray, List.set_cons_zero, List.set_cons_succ] at hres
      (try simp only [Exit.inBlock, Exit.then])
      refine bodyPost_ret (ret_ref rfl rfl hres) rfl ?_
      obtain ⟨hA1, hB1⟩ := hA.answer (r := 1) (by omega)
      first | exact ⟨_, rbw, rfl, hA1, hB1⟩ | exact ⟨_, rfl, ⟨rbw, hA1⟩, hB1⟩
end Go.Proofs.YtogifpilfckenaaDoor
/- The contract of the document's own Comp. -/
namespace Go.Proofs.YtogifpilfckenaaDoor
open Go.RowKit Go.Shelf Sx

def cmpF (X Y : Nat → Nat → Bool) : Nat → Nat → Nat → Bool
  | 0 => fun _ _ => false
  | q + 1 => fun p s => cmpF X Y q p s || (X p q && Y q s)
theorem cmpF_succ (X Y : Nat → Nat → Bool) (q p s : Nat) : cmpF X Y (q + 1) p s = (cmpF X Y q p s || (X p q && Y q s)) := rfl
def rowsF (X Y : Nat → Nat → Bool) (N p q : Nat) : Nat → Nat → Bool := fun x y => if x < p then cmpF X Y N x y else if x = p then cmpF X Y q x y else false
theorem rowsF_zero (X Y : Nat → Nat → Bool) (N x y : Nat) : rowsF X Y N 0 0 x y = false := by
  unfold rowsF
  rw [if_neg (by omega)]
  split <;> rfl
theorem rowsF_still (X Y : Nat → Nat → Bool) (N p q : Nat) (h : X p q = false) (x y : Nat) : rowsF X Y N p q x y = rowsF X Y N p (q + 1) x y := by
  unfold rowsF
  by_cases h1 : x < p
  · rw [if_pos h1, if_pos h1]
  · rw [if_neg h1, if_neg h1]
    by_cases h2 : x = p
    · subst h2
      rw [if_pos rfl, if_pos rfl, cmpF_succ, h]
      simp
    · rw [if_neg h2, if_neg h2]
theorem rowsF_next (X Y : Nat → Nat → Bool) (N p x y : Nat) : rowsF X Y N p N x y = rowsF X Y N (p + 1) 0 x y := by
  unfold rowsF
  by_cases h1 : x < p
  · rw [if_pos h1, if_pos (by omega)]
  · rw [if_neg h1]
    by_cases h2 : x = p
    · subst h2
      rw [if_pos rfl, if_pos (by omega)]
    · rw [if_neg h2, if_neg (by omega)]
      split <;> rfl
theorem rowsF_filled (X Y : Nat → Nat → Bool) (N p q x y : Nat) (hy : y < N) : fillF (cmpF X Y (q + 1)) (rowsF X Y N p q) 0 p N x y = rowsF X Y N p (q + 1) x y := by
  unfold fillF rowsF
  by_cases h1 : x < p
  · rw [if_neg (by omega), if_pos h1, if_pos h1]
  · by_cases h2 : x = p
    · subst h2
      rw [if_pos (by omega), if_neg h1, if_pos rfl]
    · rw [if_neg (by omega), if_neg h1, if_neg h1, if_neg h2, if_neg h2]
theorem rowsF_here (X Y : Nat → Nat → Bool) (N p q s : Nat) : rowsF X Y N p q p s = cmpF X Y q p s := by
  unfold rowsF
  rw [if_neg (by omega), if_pos rfl]

structure CompB (w W : World) (bx bY N : Nat) (M1 M2 : Value) (r1 r2 : Nat → Nat) (X Y : Nat → Nat → Bool) : Prop where
  below : Below w.heap.size w W
  res : Blk W (w.heap.size + 2) 46 #[.int .i64 0, .slice none 0 0]
  hx : Blk W bx 46 #[.int .i64 ((N : Nat) : Int), M1]
  hy : Blk W bY 46 #[.int .i64 ((N : Nat) : Int), M2]
  rx : RefM 0 W M1 N N r1 X
  ry : RefM 0 W M2 N N r2 Y
theorem CompB.step {w W W' : World} {bx bY N : Nat} {M1 M2 : Value} {r1 r2 : Nat → Nat} {X Y : Nat → Nat → Bool} (h : CompB w W bx bY N M1 M2 r1 r2 X Y) (hB : Below W.heap.size W W') : CompB w W' bx bY N M1 M2 r1 r2 X Y :=
  ⟨below_step h.below h.below.size hB, h.res.of_below hB, h.hx.of_below hB, h.hy.of_below hB, h.rx.below hB, h.ry.below hB⟩

set_option maxRecDepth 100000 in
set_option maxHeartbeats 8000000 in
theorem refComp_calls (lo lo2 n m N : Nat) (hn : n ≤ 256) (hm : m ≤ 256) (HN : Hid (N = max n m)) (x : Option Addr) (y z : Nat) (rb : Nat → Nat) (F : Nat → Nat → Bool) (x1 : Option Addr) (y1 z1 : Nat) (rb1 : Nat → Nat) (G : Nat → Nat → Bool) (w : World) (h : RefM lo w (.slice x y z) n n rb F) (h1 : RefM lo2 w (.slice x1 y1 z1) m m rb1 G) :
    Calls Tryd.prog 61 #[.agg #[.int .i64 ((n : Nat) : Int), .slice x y z], .agg #[.int .i64 ((m : Nat) : Int), .slice x1 y1 z1]] w fun e w' => ∃ M rb', e = .returned (.agg #[.int .i64 ((N : Nat) : Int), M]) ∧ RefM w.heap.size w' M N N rb' (cmpF (extF n F) (extF m G) N) ∧ Below w.heap.size w w' := by
  have hN : N ≤ 256 := by have := HN.out; omega
  have HN2 : Hid (N = max m n) := by show _ = _; have := HN.out; omega
  have hW0 : Below w.heap.size w (((w.alloc (.cells #[.int .i64 ((n : Nat) : Int), .slice x y z] 46)).alloc (.cells #[.int .i64 ((m : Nat) : Int), .slice x1 y1 z1] 46)).alloc (.cells #[.int .i64 0, .slice none 0 0] 46)) := (((Below.refl _ w).alloc (Nat.le_refl _) _).alloc (by simp) _).alloc (by simp; omega) _
  go_enter Tryd.func61, Tryd.ntmps61
  go_wp2_with fail
  refine (refWide_at lo n hn x y z rb F m N hm HN _ (((h.alloc _).alloc _).alloc _)).mono ?_
  rintro e w1 ⟨M1, r1, rfl, hR1, hB1⟩
  obtain ⟨x2, y2, z2, rfl⟩ := hR1.slice
  have ba := (((((Blk.new w 46 #[.int .i64 ((n : Nat) : Int), .slice x y z]).alloc (.cells #[.int .i64 ((m : Nat) : Int), .slice x1 y1 z1] 46)).alloc (.cells #[.int .i64 0, .slice none 0 0] 46)).of_below hB1).alloc (.cells #[.int .i64 ((N : Nat) : Int), .slice x2 y2 z2] 46))
  have bb := ((((Blk.new2 w (.cells #[.int .i64 ((n : Nat) : Int), .slice x y z] 46) 46 #[.int .i64 ((m : Nat) : Int), .slice x1 y1 z1]).alloc (.cells #[.int .i64 0, .slice none 0 0] 46)).of_below hB1).alloc (.cells #[.int .i64 ((N : Nat) : Int), .slice x2 y2 z2] 46))
  have br := ((Blk.new3 w (.cells #[.int .i64 ((n : Nat) : Int), .slice x y z] 46) (.cells #[.int .i64 ((m : Nat) : Int), .slice x1 y1 z1] 46) 46 #[.int .i64 0, .slice none 0 0]).of_below hB1).alloc (.cells #[.int .i64 ((N : Nat) : Int), .slice x2 y2 z2] 46)
  have bx := Blk.new w1 46 #[.int .i64 ((N : Nat) : Int), .slice x2 y2 z2]
  have hW1 := below_step hW0 hW0.size hB1
  have hW1a := hW1.alloc hW1.size (.cells #[.int .i64 ((N : Nat) : Int), .slice x2 y2 z2] 46)
  have rX := ((hR1.congr (G := extF n F) (fun p q _ _ => fill_ext n F p q)).mono (Nat.zero_le _)).alloc (.cells #[.int .i64 ((N : Nat) : Int), .slice x2 y2 z2] 46)
  have h1a := h1.below hW1a
  clear hR1 hB1 hW0 hW1
  have a0 := ba.cell (j := 0) rfl
  have b0 := bb.cell (j := 0) rfl
  have b1 := bb.cell (j := 1) rfl
  go_wp2_with fail
  generalize hw1a : w1.alloc (.cells #[.int .i64 ((N : Nat) : Int), .slice x2 y2 z2] 46) = W1 at *
  generalize w1.heap.size = BX at *
  refine (refWide_at lo2 m hm x1 y1 z1 rb1 G n N hn HN2 _ h1a).mono ?_
  rintro e w2 ⟨M2, r2, rfl, hR2, hB2⟩
  obtain ⟨x3, y3, z3, rfl⟩ := hR2.slice
  have hW2 := below_step hW1a hW1a.size hB2
  have hC : CompB w (w2.alloc (.cells #[.int .i64 ((N : Nat) : Int), .slice x3 y3 z3] 46)) BX w2.heap.size N (.slice x2 y2 z2) (.slice x3 y3 z3) r1 r2 (extF n F) (extF m G) :=
    ⟨hW2.alloc hW2.size _, (br.of_below hB2).alloc _, (bx.of_below hB2).alloc _, Blk.new _ _ _, (rX.below hB2).alloc _, ((hR2.congr (G := extF m G) (fun p q _ _ => fill_ext m G p q)).mono (Nat.zero_le _)).alloc _⟩
  clear ba bb br bx hW1a rX h1a hR2 hB2 hW2 a0 b0 b1 h h1
  have a0 := hC.hx.cell (j := 0) rfl
  go_wp2_with fail
  generalize w2.alloc (.cells #[.int .i64 ((N : Nat) : Int), .slice x3 y3 z3] 46) = w3 at *
  generalize w2.heap.size = BY at *
  clear a0
  refine (refNew_mid N hN _).mono ?_
  rintro e w4 ⟨M, rbw, rfl, hRM, hB4⟩
  obtain ⟨x4, y4, z4, rfl⟩ := hRM.slice
  have hA : MkAt w3 (w4.alloc (.cells #[.int .i64 ((N : Nat) : Int), .slice x4 y4 z4] 46)) 0 [] w4.heap.size N (.slice x4 y4 z4) rbw (rowsF (extF n F) (extF m G) N 0 0) :=
    MkAt.begin (Below.refl _ _) (by simp) (fun x hx => by cases hx) (hRM.congr fun p q hp hq => (rowsF_zero _ _ N p q).symm) hB4
  clear hRM hB4
  go_wp2_with fail
  generalize w4.heap.size = B at *
  go_loopw [8] (fun i wr => ∃ p, p ≤ N ∧ i = .int .i64 ((p : Nat) : Int) ∧ MkAt w3 wr 0 [] B N (.slice x4 y4 z4) rbw (rowsF (extF n F) (extF m G) N p 0)) (fun i _ => N - (intOf i).toNat)
  case atStart => exact ⟨0, by omega, rfl, hA⟩
  case round =>
    clear hA
    obtain ⟨p, hp, rfl, hA⟩ := hrel
    have c0 := hA.box.cell (j := 0) rfl
    by_cases hlt : p < N
    · go_wp2_with fail
      clear c0
      go_loopw [9] (fun i wr => ∃ q, q ≤ N ∧ i = .int .i64 ((q : Nat) : Int) ∧ MkAt w3 wr 0 [] B N (.slice x4 y4 z4) rbw (rowsF (extF n F) (extF m G) N p q)) (fun i _ => N - (intOf i).toNat)
      case atStart => exact ⟨0, by omega, rfl, hA⟩
      case round =>
        clear hA
        obtain ⟨q, hq, rfl, hA⟩ := hrel
        have c0 := hA.box.cell (j := 0) rfl
        by_cases hlt2 : q < N
        · cases hv : extF n F p q
          · have hA2 := hA.congr (fun x y _ _ => rowsF_still (extF n F) (extF m G) N p q hv x y)
            have Hv : Hid (extF n F p q = false) := hv
            clear hA hv
            go_wp2_with fail
            clear c0
            go_loopw [10] (fun i wr => i = .int .i64 0 ∧ MkAt w3 wr 0 [] B N (.slice x4 y4 z4) rbw (rowsF (extF n F) (extF m G) N p (q + 1))) (fun _ _ => 0)
            case atStart => exact ⟨rfl, hA2⟩
            case round =>
              clear hA2
              obtain ⟨rfl, hA⟩ := hrel
              have hC2 := hC.step hA.below
              have d1 := hC2.hx.cell (j := 1) rfl
              obtain ⟨g2, cap2, e2, _, _, _, s0, s1, _, _⟩ := hC2.rx.at_ (p := p) (q := q) hlt hlt2
              cases e2
              rw [Hv.out] at s1
              go_wp2_with fail
              refine ⟨⟨q + 1, by omega, by go_num, hA⟩, by simp [intOf]; omega⟩
          · have Hv : Hid (extF n F p q = true) := hv
            have hA2 : MkAt w3 _ 0 [] B N (.slice x4 y4 z4) rbw (fillF (cmpF (extF n F) (extF m G) (q + 1)) (rowsF (extF n F) (extF m G) N p q) 0 p 0) := hA.congr (fun x y _ _ => by unfold fillF; rw [if_neg (by omega)])
            clear hv hA
            go_wp2_with fail
            clear c0
            go_loopw [10] (fun i wr => ∃ s, s ≤ N ∧ i = .int .i64 ((s : Nat) : Int) ∧ MkAt w3 wr 0 [] B N (.slice x4 y4 z4) rbw (fillF (cmpF (extF n F) (extF m G) (q + 1)) (rowsF (extF n F) (extF m G) N p q) 0 p s)) (fun i _ => N - (intOf i).toNat)
            case atStart => exact ⟨0, by omega, rfl, hA2⟩
            case round =>
              clear hA2
              obtain ⟨s, hs, rfl, hA⟩ := hrel
              have hC2 := hC.step hA.below
              have c0 := hA.box.cell (j := 0) rfl
              have d1 := hC2.hx.cell (j := 1) rfl
              obtain ⟨g2, cap2, e2, _, _, _, s0, s1, _, _⟩ := hC2.rx.at_ (p := p) (q := q) hlt hlt2
              rw [Hv.out] at s1
              by_cases hlt3 : s < N
              · have k1 := hC2.hy.cell (j := 1) rfl
                have m1 := hA.box.cell (j := 1) rfl
                obtain ⟨g3, cap3, e3, _, _, _, t0, t1, _, _⟩ := hC2.ry.at_ (p := q) (q := s) hlt2 hlt3
                obtain ⟨g4, cap4, e4, _, _, n4, u0, u1, fz, _⟩ := hA.ref.at_ (p := p) (q := s) hlt hlt3
                cases e2
                cases e3
                cases e4
                rw [fillF_at, rowsF_here] at u1
                have hval : cmpF (extF n F) (extF m G) (q + 1) p s = (cmpF (extF n F) (extF m G) q p s || extF m G q s) := by rw [cmpF_succ, Hv.out, Bool.true_and]
                have hA2 := hA.drew.put (p := p) (q := s) hlt hlt3 (cmpF (extF n F) (extF m G) q p s || extF m G q s)
                rw [← hval, fillF_put] at hA2
                cases hu : cmpF (extF n F) (extF m G) q p s
                · rw [hval, hu, Bool.false_or] at hA2
                  rw [hu] at u1
                  clear hval hu
                  go_wp2_with fail
                  go_region
                  all_goals
                    go_wp2_with fail
                    refine ⟨⟨s + 1, by omega, by go_num, hA2⟩, by simp [intOf]; omega⟩
                · rw [hval, hu, Bool.true_or] at hA2
                  rw [hu] at u1
                  clear hval hu
                  go_wp2_with fail
                  go_region
                  all_goals
                    go_wp2_with fail
                    refine ⟨⟨s + 1, by omega, by go_num, hA2⟩, by simp [intOf]; omega⟩
              · have e : N = s := by omega
                subst e
                cases e2
                have hA2 := hA.congr (fun x y _ hy => rowsF_filled (extF n F) (extF m G) N p q x y hy)
                go_wp2_with fail
                refine ⟨⟨q + 1, by omega, by go_num, hA2⟩, by simp [intOf]; omega⟩
        · have e : N = q := by omega
          subst e
          have hA2 := hA.congr (fun x y _ _ => rowsF_next (extF n F) (extF m G) N p x y)
          go_wp2_with fail
          refine ⟨⟨p + 1, by omega, by go_num, hA2⟩, by simp [intOf]; omega⟩
    · have e : N = p := by omega
      subst e
      have hA := hA.congr (G := cmpF (extF n F) (extF m G) N) (fun x y hx _ => by unfold rowsF; rw [if_pos hx])
      have hC2 := hC.step hA.below
      have b1 := hA.box.cell (j := 1) rfl
      have hr := hC2.res
      have d0 := hr.cell (j := 0) rfl
      have d1 := hr.cell (j := 1) rfl
      have f0 := hr.frozen 0
      have f1 := hr.frozen 1
      go_wp2_with fail
      have hres := (hr.set 0 (.int .i64 ((N : Nat) : Int))).set 1 (.slice x4 y4 z4)
      simp only [List.setIfInBounds_toArray, List.set_cons_zero, List.set_cons_succ] at hres
      (try simp only [Exit.inBlock, Exit.then])
      refine bodyPost_ret (ret_ref rfl rfl hres) rfl ?_
      have hl := hC.res.lt
      have hA1 : RefM w.heap.size ((_ : World).setCell ⟨w.heap.size + 2, 0, none⟩ (.int .i64 ((N : Nat) : Int)) |>.setCell ⟨w.heap.size + 2, 1, none⟩ (.slice x4 y4 z4)) (.slice x4 y4 z4) N N rbw (cmpF (extF n F) (extF m G) N) := RefM.mono (hA.ref.below' fun g hg _ => by rw [Below.heap_setCell _ _ _ _ (by simp; omega), Below.heap_setCell _ _ _ _ (by simp; omega)]) (by omega)
      have hB1 := (hC2.below.setCell (p := ⟨w.heap.size + 2, 0, none⟩) (by simp) (.int .i64 ((N : Nat) : Int))).setCell (p := ⟨w.heap.size + 2, 1, none⟩) (by simp) (.slice x4 y4 z4)
      first | exact ⟨_, rbw, rfl, hA1, hB1⟩ | exact ⟨_, rfl, ⟨rbw, hA1⟩, hB1⟩
end Go.Proofs.YtogifpilfckenaaDoor
/- The contract of the document's own Pairs. -/
namespace Go.Proofs.YtogifpilfckenaaDoor
open Go.RowKit Go.Shelf Sx

def prsRow (F : Nat → Nat → Bool) (p q : Nat) : List (Nat × Nat) := ((List.range q).filter (F p)).map (fun y => (p, y))
def prsF (n : Nat) (F : Nat → Nat → Bool) (p q : Nat) : List (Nat × Nat) := (List.range p).flatMap (fun x => prsRow F x n) ++ prsRow F p q
theorem prsRow_succ (F : Nat → Nat → Bool) (p q : Nat) : prsRow F p (q + 1) = prsRow F p q ++ (if F p q then [(p, q)] else []) := by
  unfold prsRow
  rw [List.range_succ, List.filter_append, List.map_append]
  congr 1
  cases h : F p q <;> simp [h]
theorem prsF_yes {n : Nat} {F : Nat → Nat → Bool} {p q : Nat} (h : F p q = true) : prsF n F p (q + 1) = prsF n F p q ++ [(p, q)] := by
  unfold prsF
  rw [prsRow_succ, h, if_pos rfl, List.append_assoc]
theorem prsF_no {n : Nat} {F : Nat → Nat → Bool} {p q : Nat} (h : F p q = false) : prsF n F p (q + 1) = prsF n F p q := by
  unfold prsF
  rw [prsRow_succ, h]
  simp
theorem prsF_next (n : Nat) (F : Nat → Nat → Bool) (p : Nat) : prsF n F p n = prsF n F (p + 1) 0 := by
  unfold prsF
  rw [List.range_succ, List.flatMap_append]
  simp [prsRow]

structure PrAt (w W : World) (n : Nat) (A v : Value) (l : List (Nat × Nat)) : Prop where
  below : Below w.heap.size w W
  box : Blk W w.heap.size 46 #[.int .i64 ((n : Nat) : Int), A]
  own : W.ownsRow (w.heap.size + 1) 29 2 v l.length (encPs l)
theorem PrAt.more {w W W' : World} {n : Nat} {A v v' : Value} {l : List (Nat × Nat)} {a b : Nat} (h : PrAt w W n A v l)
    (hown : W'.ownsRow (w.heap.size + 1) 29 2 v' (l.length + 1) (encPs l ++ [.int .i64 ((a : Nat) : Int), .int .i64 ((b : Nat) : Int)]))
    (hg : (W.alloc (.cells #[.int .i64 ((a : Nat) : Int), .int .i64 ((b : Nat) : Int)] 29)).grownBy W' v.ownBlock) : PrAt w W' n A v' (l ++ [(a, b)]) := by
  have hlt := h.box.lt
  refine ⟨(h.below.alloc h.below.size _).grown hg (by simp; omega) (fun k e => by have := (h.own.lt k e).1; omega), ?_, ?_⟩
  · exact (hg.block _ (by simp; omega) (fun e => by have := (h.own.lt _ e.symm).1; omega)).trans (h.box.alloc _)
  · rw [encPs_snoc, List.length_append]
    exact hown

theorem owns_lower {w : World} {base base' : Nat} {e : TypeId} {size : Nat} {v : Value} {n : Nat} {xs : List Value} (h : w.ownsRow base e size v n xs) (hb : base' ≤ base) : w.ownsRow base' e size v n xs := by
  refine ⟨h.1, ?_⟩
  rcases h.2 with h2 | ⟨g, cap, cur, e1, e2, e3⟩
  · exact .inl h2
  · exact .inr ⟨g, cap, cur, e1, Nat.le_trans hb e2, e3⟩
set_option maxRecDepth 100000 in
set_option maxHeartbeats 4000000 in
theorem refPairs_calls (lo n : Nat) (hn : n ≤ 256) (x : Option Addr) (y z : Nat) (rb : Nat → Nat) (F : Nat → Nat → Bool) (w : World) (h : RefM lo w (.slice x y z) n n rb F) :
    Calls Tryd.prog 68 #[.agg #[.int .i64 ((n : Nat) : Int), .slice x y z]] w fun e w' => ∃ v, e = .returned v ∧ w'.ownsRow w.heap.size 29 2 v (prsF n F n 0).length (encPs (prsF n F n 0)) ∧ Below w.heap.size w w' := by
  obtain ⟨i0, hi, hz0, hz1, hz2⟩ := info_parts Tryd.infopair
  have hA : PrAt w (w.alloc (.cells #[.int .i64 ((n : Nat) : Int), .slice x y z] 46)) n (.slice x y z) (.slice none 0 0) [] :=
    ⟨(Below.refl _ _).alloc (Nat.le_refl _) _, Blk.new _ _ _, World.ownsRow_nil _ _ _ _⟩
  go_enter Tryd.func68, Tryd.ntmps68
  go_wp2_with fail
  go_loopw [3, 4] (fun v i wr => ∃ p l, p ≤ n ∧ i = .int .i64 ((p : Nat) : Int) ∧ PrAt w wr n (.slice x y z) v l ∧ Hid (l = prsF n F p 0) ∧ l.length ≤ p * 256) (fun _ i _ => n - (intOf i).toNat)
  case atStart => exact ⟨0, [], by omega, rfl, hA, rfl, by simp⟩
  case round =>
    clear hA
    obtain ⟨p, l, hp, rfl, hA, HL, hlen⟩ := hrel
    have c0 := hA.box.cell (j := 0) rfl
    by_cases hlt : p < n
    · go_wp2_with fail
      clear c0
      go_loopw [3, 5] (fun v i wr => ∃ q l, q ≤ n ∧ i = .int .i64 ((q : Nat) : Int) ∧ PrAt w wr n (.slice x y z) v l ∧ Hid (l = prsF n F p q) ∧ l.length ≤ p * 256 + q) (fun _ i _ => n - (intOf i).toNat)
      case atStart => exact ⟨0, l, by omega, rfl, hA, HL, by omega⟩
      case round =>
        clear hA HL hlen
        obtain ⟨q, l, hq, rfl, hA, HL, hlen⟩ := hrel
        have c0 := hA.box.cell (j := 0) rfl
        by_cases hlt2 : q < n
        · have c1 := hA.box.cell (j := 1) rfl
          obtain ⟨g, cap, e, _, _, _, d0, d1, _, _⟩ := (h.below hA.below).at_ hlt hlt2
          cases e
          cases hf : F p q
          · rw [hf] at d1
            have HL2 : Hid (l = prsF n F p (q + 1)) := by show _ = _; rw [prsF_no hf]; exact HL.out
            clear hf
            go_wp2_with fail
            refine ⟨⟨q + 1, l, by omega, by go_num, hA, HL2, by omega⟩, by simp [intOf]; omega⟩
          · rw [hf] at d1
            have HL2 : Hid (l ++ [(p, q)] = prsF n F p (q + 1)) := by show _ = _; rw [prsF_yes hf, ← HL.out]
            clear hf
            have hlt4 := hA.box.lt
            go_wp2_with (at_builtin; refine wpList_append_own_at _ rfl _ _ 26 rfl (w.heap.size + 1) 29 i0 (.agg #[.int .i64 0, .int .i64 0]) 2 16 Tryd.underlying26 hi hz0 hz1 hz2 rfl (by decide) _ _ _ rfl (hA.own.alloc _) ⟨_, 0, none⟩ 1 1 [.int .i64 ((p : Nat) : Int), .int .i64 ((q : Nat) : Int)] rfl rfl (news_two _ _ _ _) (by simp [Value.oneCell']) (by unfold maxLen; omega) (by omega) (by simp; omega) ?_; intro v' w4 hown' hgrow _ hat)
            have hA2 := hA.more hown' hgrow
            refine ⟨⟨q + 1, l ++ [(p, q)], by omega, by go_num, hA2, HL2, by simp; omega⟩, by simp [intOf]; omega⟩
        · have e : n = q := by omega
          subst e
          have HL2 : Hid (l = prsF n F (p + 1) 0) := by show _ = _; rw [← prsF_next]; exact HL.out
          go_wp2_with fail
          refine ⟨⟨p + 1, l, by omega, by go_num, hA, HL2, by omega⟩, by simp [intOf]; omega⟩
    · have e : n = p := by omega
      subst e
      have ho := hA.own
      rw [HL.out] at ho
      go_wp2_with fail
      go_ret
      exact ⟨_, rfl, owns_lower ho (by omega), hA.below⟩
end Go.Proofs.YtogifpilfckenaaDoor
/- The contracts of the document's own makers: Ident. -/
namespace Go.Proofs.YtogifpilfckenaaDoor
open Go.RowKit Go.Shelf Sx

def idF (l : List Bool) (k : Nat) : Nat → Nat → Bool := fun p q => decide (p = q) && (decide (p < k) && l.getD p false)
theorem idF_zero (l : List Bool) (p q : Nat) : idF l 0 p q = false := by simp [idF]
theorem idF_put (l : List Bool) (k p q : Nat) : upd (idF l k) k k (l.getD k false) p q = idF l (k + 1) p q := by
  unfold upd idF
  by_cases h : p = k ∧ q = k
  · obtain ⟨rfl, rfl⟩ := h
    simp
  · rw [if_neg h]
    by_cases e : p = q
    · subst e
      have hk : p ≠ k := fun e => h ⟨e, e⟩
      have : decide (p < k) = decide (p < k + 1) := by rw [decide_eq_decide]; omega
      rw [this]
    · simp [e]
set_option maxRecDepth 100000 in
set_option maxHeartbeats 4000000 in
theorem refIdent_at (n : Int) (v : Value) (l : List Bool) (w : World) (hS0 : SetArg w v l) (N : Nat) (HN : Hid (clampN n = N)) :
    Calls Tryd.prog 57 #[.int .i64 n, v] w fun e w' => ∃ M rb', e = .returned (.agg #[.int .i64 ((N : Nat) : Int), M]) ∧ RefM w.heap.size w' M N N rb' (idF l N) ∧ Below w.heap.size w w' := by
  have hN : N ≤ 256 := by rw [← HN.out]; unfold clampN; omega
  go_enter Tryd.func57, Tryd.ntmps57
  go_wp2_with fail
  refine (refNew_calls n _).mono ?_
  rw [HN.out]
  rintro e w1 ⟨M, rbw, rfl, hRM, hB1⟩
  obtain ⟨x2, y2, z2, rfl⟩ := hRM.slice
  have hA : MkAt w (w1.alloc (.cells #[.int .i64 ((N : Nat) : Int), .slice x2 y2 z2] 46)) 1 [(0, #[.int .i64 0, .slice none 0 0])] w1.heap.size N (.slice x2 y2 z2) rbw (idF l 0) := by
    refine MkAt.begin ((Below.refl _ w).alloc (Nat.le_refl _) _) (by simp) ?_ (hRM.congr fun p q hp hq => (idF_zero l p q).symm) hB1
    intro x hx
    simp only [List.mem_cons, List.not_mem_nil, or_false] at hx
    subst hx
    exact ⟨by omega, Blk.new w _ _⟩
  clear hRM hB1
  go_wp2_with fail
  generalize w1.heap.size = B at *
  go_loopw [6] (fun i wr => ∃ a, a ≤ N ∧ i = .int .i64 ((a : Nat) : Int) ∧ MkAt w wr 1 [(0, #[.int .i64 0, .slice none 0 0])] B N (.slice x2 y2 z2) rbw (idF l a)) (fun i _ => N - (intOf i).toNat)
  case atStart => exact ⟨0, by omega, rfl, hA⟩
  case round =>
    clear hA
    obtain ⟨a, ha, rfl, hA⟩ := hrel
    have c0 := hA.box.cell (j := 0) rfl
    by_cases hlt : a < N
    · have d1 := hA.box.cell (j := 1) rfl
      obtain ⟨g2, cap2, e2, q2, _, n2, s0, s1, fz, q3⟩ := hA.ref.at_ (p := a) (q := a) hlt hlt
      cases e2
      go_wp2_with fail
      generalize hA0 : Act.mk _ _ = a0
      have hsz : a0.tmps.size = 26 := by rw [← hA0]; rfl
      have b5 : Act.eval a0 (.tmp 5) = pv B := by rw [← hA0]; rfl
      have b6 : Act.eval a0 (.tmp 6) = .int .i64 ((a : Nat) : Int) := by rw [← hA0]; rfl
      have b1 : Act.eval a0 (.tmp 1) = v := by rw [← hA0]; rfl
      refine wp_region_held_drew (S := (fun W' => ∃ F', MkAt w W' 1 [(0, #[.int .i64 0, .slice none 0 0])] B N (.slice (some ⟨g2, 0, none⟩) N z2) rbw F')) (by kernel_rfl) ⟨_, hA.drew⟩ (fun hS => ?_)
      refine anyS_take (i := 0) (d := some 15) (v := .pointer (some ⟨B, 1, none⟩)) hS rfl rfl (by kernel_rfl) (by kernel_rfl) (by kernel_rfl) (fun _ _ _ h => h) (by rfl) ?_ ?_
      · intro w9 hSw
        have e5 := b5
        have ec : ∀ v, Act.eval a0 (.const v) = v := fun _ => rfl
        have ef : ∀ f, Act.eval a0 (.func f) = .func (.func f) #[] #[] := fun _ => rfl
        generalize Act.eval a0 = ρ at *
        simp only [List.getElem_toArray, List.getElem_cons_zero]
        clear hSw
        go_simp
      refine anyS_take (i := 1) (d := some 16) (v := .slice (some ⟨g2, 0, none⟩) N z2) hS rfl rfl (by kernel_rfl) (by kernel_rfl) (by kernel_rfl) (fun _ _ _ h => h) (by rfl) ?_ ?_
      · intro w9 hSw
        have e15 : Act.eval (a0.put (some 15) (.pointer (some ⟨B, 1, none⟩))) (.tmp 15) = .pointer (some ⟨B, 1, none⟩) := by rw [Act.eval_put_same _ _ _ (by (repeat rw [Act.size_put]); omega)]
        have ec : ∀ v, Act.eval (a0.put (some 15) (.pointer (some ⟨B, 1, none⟩))) (.const v) = v := fun _ => rfl
        have ef : ∀ f, Act.eval (a0.put (some 15) (.pointer (some ⟨B, 1, none⟩))) (.func f) = .func (.func f) #[] #[] := fun _ => rfl
        generalize Act.eval (a0.put (some 15) (.pointer (some ⟨B, 1, none⟩))) = ρ at *
        simp only [List.getElem_toArray, List.getElem_cons_zero, List.getElem_cons_succ]
        obtain ⟨F9, hA9⟩ := hSw
        have d9 := hA9.box.cell (j := 1) rfl
        go_simp
      refine anyS_take (i := 2) (d := some 17) (v := .int .i64 ((a : Nat) : Int)) hS rfl rfl (by kernel_rfl) (by kernel_rfl) (by kernel_rfl) (fun _ _ _ h => h) (by rfl) ?_ ?_
      · intro w9 hSw
        have e6 : Act.eval ((a0.put (some 15) (.pointer (some ⟨B, 1, none⟩))).put (some 16) (.slice (some ⟨g2, 0, none⟩) N z2)) (.tmp 6) = .int .i64 ((a : Nat) : Int) := by rw [Act.eval_put_ne _ _ _ _ (by decide), Act.eval_put_ne _ _ _ _ (by decide), b6]
        have ec : ∀ v, Act.eval ((a0.put (some 15) (.pointer (some ⟨B, 1, none⟩))).put (some 16) (.slice (some ⟨g2, 0, none⟩) N z2)) (.const v) = v := fun _ => rfl
        have ef : ∀ f, Act.eval ((a0.put (some 15) (.pointer (some ⟨B, 1, none⟩))).put (some 16) (.slice (some ⟨g2, 0, none⟩) N z2)) (.func f) = .func (.func f) #[] #[] := fun _ => rfl
        generalize Act.eval ((a0.put (some 15) (.pointer (some ⟨B, 1, none⟩))).put (some 16) (.slice (some ⟨g2, 0, none⟩) N z2)) = ρ at *
        simp only [List.getElem_toArray, List.getElem_cons_zero, List.getElem_cons_succ]
        clear hSw
        go_simp
      refine anyS_take (i := 3) (d := some 18) (v := .pointer (some ⟨g2, a, none⟩)) hS rfl rfl (by kernel_rfl) (by kernel_rfl) (by kernel_rfl) (fun _ _ _ h => h) (by rfl) ?_ ?_
      · intro w9 hSw
        have e16 : Act.eval (((a0.put (some 15) (.pointer (some ⟨B, 1, none⟩))).put (some 16) (.slice (some ⟨g2, 0, none⟩) N z2)).put (some 17) (.int .i64 ((a : Nat) : Int))) (.tmp 16) = .slice (some ⟨g2, 0, none⟩) N z2 := by rw [Act.eval_put_ne _ _ _ _ (by decide), Act.eval_put_same _ _ _ (by (repeat rw [Act.size_put]); omega)]
        have e17 : Act.eval (((a0.put (some 15) (.pointer (some ⟨B, 1, none⟩))).put (some 16) (.slice (some ⟨g2, 0, none⟩) N z2)).put (some 17) (.int .i64 ((a : Nat) : Int))) (.tmp 17) = .int .i64 ((a : Nat) : Int) := by rw [Act.eval_put_same _ _ _ (by (repeat rw [Act.size_put]); omega)]
        have ec : ∀ v, Act.eval (((a0.put (some 15) (.pointer (some ⟨B, 1, none⟩))).put (some 16) (.slice (some ⟨g2, 0, none⟩) N z2)).put (some 17) (.int .i64 ((a : Nat) : Int))) (.const v) = v := fun _ => rfl
        have ef : ∀ f, Act.eval (((a0.put (some 15) (.pointer (some ⟨B, 1, none⟩))).put (some 16) (.slice (some ⟨g2, 0, none⟩) N z2)).put (some 17) (.int .i64 ((a : Nat) : Int))) (.func f) = .func (.func f) #[] #[] := fun _ => rfl
        generalize Act.eval (((a0.put (some 15) (.pointer (some ⟨B, 1, none⟩))).put (some 16) (.slice (some ⟨g2, 0, none⟩) N z2)).put (some 17) (.int .i64 ((a : Nat) : Int))) = ρ at *
        simp only [List.getElem_toArray, List.getElem_cons_zero, List.getElem_cons_succ]
        clear hSw
        go_simp
      refine anyS_take (i := 4) (d := some 19) (v := hdr N (rbw a)) hS rfl rfl (by kernel_rfl) (by kernel_rfl) (by kernel_rfl) (fun _ _ _ h => h) (by rfl) ?_ ?_
      · intro w9 hSw
        have e18 : Act.eval ((((a0.put (some 15) (.pointer (some ⟨B, 1, none⟩))).put (some 16) (.slice (some ⟨g2, 0, none⟩) N z2)).put (some 17) (.int .i64 ((a : Nat) : Int))).put (some 18) (.pointer (some ⟨g2, a, none⟩))) (.tmp 18) = .pointer (some ⟨g2, a, none⟩) := by rw [Act.eval_put_same _ _ _ (by (repeat rw [Act.size_put]); omega)]
        have ec : ∀ v, Act.eval ((((a0.put (some 15) (.pointer (some ⟨B, 1, none⟩))).put (some 16) (.slice (some ⟨g2, 0, none⟩) N z2)).put (some 17) (.int .i64 ((a : Nat) : Int))).put (some 18) (.pointer (some ⟨g2, a, none⟩))) (.const v) = v := fun _ => rfl
        have ef : ∀ f, Act.eval ((((a0.put (some 15) (.pointer (some ⟨B, 1, none⟩))).put (some 16) (.slice (some ⟨g2, 0, none⟩) N z2)).put (some 17) (.int .i64 ((a : Nat) : Int))).put (some 18) (.pointer (some ⟨g2, a, none⟩))) (.func f) = .func (.func f) #[] #[] := fun _ => rfl
        generalize Act.eval ((((a0.put (some 15) (.pointer (some ⟨B, 1, none⟩))).put (some 16) (.slice (some ⟨g2, 0, none⟩) N z2)).put (some 17) (.int .i64 ((a : Nat) : Int))).put (some 18) (.pointer (some ⟨g2, a, none⟩))) = ρ at *
        simp only [List.getElem_toArray, List.getElem_cons_zero, List.getElem_cons_succ]
        obtain ⟨F9, hA9⟩ := hSw
        obtain ⟨g9, cap9, e9, _, _, _, s9, _, _, _⟩ := hA9.ref.at_ (p := a) (q := a) hlt hlt
        cases e9
        go_simp
      refine anyS_take (i := 5) (d := some 20) (v := .int .i64 ((a : Nat) : Int)) hS rfl rfl (by kernel_rfl) (by kernel_rfl) (by kernel_rfl) (fun _ _ _ h => h) (by rfl) ?_ ?_
      · intro w9 hSw
        have e6 : Act.eval (((((a0.put (some 15) (.pointer (some ⟨B, 1, none⟩))).put (some 16) (.slice (some ⟨g2, 0, none⟩) N z2)).put (some 17) (.int .i64 ((a : Nat) : Int))).put (some 18) (.pointer (some ⟨g2, a, none⟩))).put (some 19) (hdr N (rbw a))) (.tmp 6) = .int .i64 ((a : Nat) : Int) := by rw [Act.eval_put_ne _ _ _ _ (by decide), Act.eval_put_ne _ _ _ _ (by decide), Act.eval_put_ne _ _ _ _ (by decide), Act.eval_put_ne _ _ _ _ (by decide), Act.eval_put_ne _ _ _ _ (by decide), b6]
        have ec : ∀ v, Act.eval (((((a0.put (some 15) (.pointer (some ⟨B, 1, none⟩))).put (some 16) (.slice (some ⟨g2, 0, none⟩) N z2)).put (some 17) (.int .i64 ((a : Nat) : Int))).put (some 18) (.pointer (some ⟨g2, a, none⟩))).put (some 19) (hdr N (rbw a))) (.const v) = v := fun _ => rfl
        have ef : ∀ f, Act.eval (((((a0.put (some 15) (.pointer (some ⟨B, 1, none⟩))).put (some 16) (.slice (some ⟨g2, 0, none⟩) N z2)).put (some 17) (.int .i64 ((a : Nat) : Int))).put (some 18) (.pointer (some ⟨g2, a, none⟩))).put (some 19) (hdr N (rbw a))) (.func f) = .func (.func f) #[] #[] := fun _ => rfl
        generalize Act.eval (((((a0.put (some 15) (.pointer (some ⟨B, 1, none⟩))).put (some 16) (.slice (some ⟨g2, 0, none⟩) N z2)).put (some 17) (.int .i64 ((a : Nat) : Int))).put (some 18) (.pointer (some ⟨g2, a, none⟩))).put (some 19) (hdr N (rbw a))) = ρ at *
        simp only [List.getElem_toArray, List.getElem_cons_zero, List.getElem_cons_succ]
        clear hSw
        go_simp
      refine anyS_take (i := 6) (d := some 21) (v := v) hS rfl rfl (by kernel_rfl) (by kernel_rfl) (by kernel_rfl) (fun _ _ _ h => h) (by rfl) ?_ ?_
      · intro w9 hSw
        have e1 : Act.eval ((((((a0.put (some 15) (.pointer (some ⟨B, 1, none⟩))).put (some 16) (.slice (some ⟨g2, 0, none⟩) N z2)).put (some 17) (.int .i64 ((a : Nat) : Int))).put (some 18) (.pointer (some ⟨g2, a, none⟩))).put (some 19) (hdr N (rbw a))).put (some 20) (.int .i64 ((a : Nat) : Int))) (.tmp 1) = v := by rw [Act.eval_put_ne _ _ _ _ (by decide), Act.eval_put_ne _ _ _ _ (by decide), Act.eval_put_ne _ _ _ _ (by decide), Act.eval_put_ne _ _ _ _ (by decide), Act.eval_put_ne _ _ _ _ (by decide), Act.eval_put_ne _ _ _ _ (by decide), b1]
        have ec : ∀ v, Act.eval ((((((a0.put (some 15) (.pointer (some ⟨B, 1, none⟩))).put (some 16) (.slice (some ⟨g2, 0, none⟩) N z2)).put (some 17) (.int .i64 ((a : Nat) : Int))).put (some 18) (.pointer (some ⟨g2, a, none⟩))).put (some 19) (hdr N (rbw a))).put (some 20) (.int .i64 ((a : Nat) : Int))) (.const v) = v := fun _ => rfl
        have ef : ∀ f, Act.eval ((((((a0.put (some 15) (.pointer (some ⟨B, 1, none⟩))).put (some 16) (.slice (some ⟨g2, 0, none⟩) N z2)).put (some 17) (.int .i64 ((a : Nat) : Int))).put (some 18) (.pointer (some ⟨g2, a, none⟩))).put (some 19) (hdr N (rbw a))).put (some 20) (.int .i64 ((a : Nat) : Int))) (.func f) = .func (.func f) #[] #[] := fun _ => rfl
        generalize Act.eval ((((((a0.put (some 15) (.pointer (some ⟨B, 1, none⟩))).put (some 16) (.slice (some ⟨g2, 0, none⟩) N z2)).put (some 17) (.int .i64 ((a : Nat) : Int))).put (some 18) (.pointer (some ⟨g2, a, none⟩))).put (some 19) (hdr N (rbw a))).put (some 20) (.int .i64 ((a : Nat) : Int))) = ρ at *
        simp only [List.getElem_toArray, List.getElem_cons_zero, List.getElem_cons_succ]
        clear hSw
        go_simp
      refine anyS_take (i := 7) (d := some 22) (v := .int .i64 ((a : Nat) : Int)) hS rfl rfl (by kernel_rfl) (by kernel_rfl) (by kernel_rfl) (fun _ _ _ h => h) (by rfl) ?_ ?_
      · intro w9 hSw
        have e6 : Act.eval (((((((a0.put (some 15) (.pointer (some ⟨B, 1, none⟩))).put (some 16) (.slice (some ⟨g2, 0, none⟩) N z2)).put (some 17) (.int .i64 ((a : Nat) : Int))).put (some 18) (.pointer (some ⟨g2, a, none⟩))).put (some 19) (hdr N (rbw a))).put (some 20) (.int .i64 ((a : Nat) : Int))).put (some 21) (v)) (.tmp 6) = .int .i64 ((a : Nat) : Int) := by rw [Act.eval_put_ne _ _ _ _ (by decide), Act.eval_put_ne _ _ _ _ (by decide), Act.eval_put_ne _ _ _ _ (by decide), Act.eval_put_ne _ _ _ _ (by decide), Act.eval_put_ne _ _ _ _ (by decide), Act.eval_put_ne _ _ _ _ (by decide), Act.eval_put_ne _ _ _ _ (by decide), b6]
        have ec : ∀ v, Act.eval (((((((a0.put (some 15) (.pointer (some ⟨B, 1, none⟩))).put (some 16) (.slice (some ⟨g2, 0, none⟩) N z2)).put (some 17) (.int .i64 ((a : Nat) : Int))).put (some 18) (.pointer (some ⟨g2, a, none⟩))).put (some 19) (hdr N (rbw a))).put (some 20) (.int .i64 ((a : Nat) : Int))).put (some 21) (v)) (.const v) = v := fun _ => rfl
        have ef : ∀ f, Act.eval (((((((a0.put (some 15) (.pointer (some ⟨B, 1, none⟩))).put (some 16) (.slice (some ⟨g2, 0, none⟩) N z2)).put (some 17) (.int .i64 ((a : Nat) : Int))).put (some 18) (.pointer (some ⟨g2, a, none⟩))).put (some 19) (hdr N (rbw a))).put (some 20) (.int .i64 ((a : Nat) : Int))).put (some 21) (v)) (.func f) = .func (.func f) #[] #[] := fun _ => rfl
        generalize Act.eval (((((((a0.put (some 15) (.pointer (some ⟨B, 1, none⟩))).put (some 16) (.slice (some ⟨g2, 0, none⟩) N z2)).put (some 17) (.int .i64 ((a : Nat) : Int))).put (some 18) (.pointer (some ⟨g2, a, none⟩))).put (some 19) (hdr N (rbw a))).put (some 20) (.int .i64 ((a : Nat) : Int))).put (some 21) (v)) = ρ at *
        simp only [List.getElem_toArray, List.getElem_cons_zero, List.getElem_cons_succ]
        clear hSw
        go_simp
      refine wpAnyH_ready (rs := [8]) (by kernel_rfl) (by simp) ?_
      refine anyS_enter (i := 8) (d := some 23) (f := 81) (args := #[v, .int .i64 ((a : Nat) : Int)]) (w' := wr.drew) rfl rfl (by rfl) ?_ ?_ AllReadyH.nil
      · skip
        have e21 : Act.eval ((((((((a0.put (some 15) (.pointer (some ⟨B, 1, none⟩))).put (some 16) (.slice (some ⟨g2, 0, none⟩) N z2)).put (some 17) (.int .i64 ((a : Nat) : Int))).put (some 18) (.pointer (some ⟨g2, a, none⟩))).put (some 19) (hdr N (rbw a))).put (some 20) (.int .i64 ((a : Nat) : Int))).put (some 21) (v)).put (some 22) (.int .i64 ((a : Nat) : Int))) (.tmp 21) = v := by rw [Act.eval_put_ne _ _ _ _ (by decide), Act.eval_put_same _ _ _ (by (repeat rw [Act.size_put]); omega)]
        have e22 : Act.eval ((((((((a0.put (some 15) (.pointer (some ⟨B, 1, none⟩))).put (some 16) (.slice (some ⟨g2, 0, none⟩) N z2)).put (some 17) (.int .i64 ((a : Nat) : Int))).put (some 18) (.pointer (some ⟨g2, a, none⟩))).put (some 19) (hdr N (rbw a))).put (some 20) (.int .i64 ((a : Nat) : Int))).put (some 21) (v)).put (some 22) (.int .i64 ((a : Nat) : Int))) (.tmp 22) = .int .i64 ((a : Nat) : Int) := by rw [Act.eval_put_same _ _ _ (by (repeat rw [Act.size_put]); omega)]
        have ec : ∀ v, Act.eval ((((((((a0.put (some 15) (.pointer (some ⟨B, 1, none⟩))).put (some 16) (.slice (some ⟨g2, 0, none⟩) N z2)).put (some 17) (.int .i64 ((a : Nat) : Int))).put (some 18) (.pointer (some ⟨g2, a, none⟩))).put (some 19) (hdr N (rbw a))).put (some 20) (.int .i64 ((a : Nat) : Int))).put (some 21) (v)).put (some 22) (.int .i64 ((a : Nat) : Int))) (.const v) = v := fun _ => rfl
        have ef : ∀ f, Act.eval ((((((((a0.put (some 15) (.pointer (some ⟨B, 1, none⟩))).put (some 16) (.slice (some ⟨g2, 0, none⟩) N z2)).put (some 17) (.int .i64 ((a : Nat) : Int))).put (some 18) (.pointer (some ⟨g2, a, none⟩))).put (some 19) (hdr N (rbw a))).put (some 20) (.int .i64 ((a : Nat) : Int))).put (some 21) (v)).put (some 22) (.int .i64 ((a : Nat) : Int))) (.func f) = .func (.func f) #[] #[] := fun _ => rfl
        generalize Act.eval ((((((((a0.put (some 15) (.pointer (some ⟨B, 1, none⟩))).put (some 16) (.slice (some ⟨g2, 0, none⟩) N z2)).put (some 17) (.int .i64 ((a : Nat) : Int))).put (some 18) (.pointer (some ⟨g2, a, none⟩))).put (some 19) (hdr N (rbw a))).put (some 20) (.int .i64 ((a : Nat) : Int))).put (some 21) (v)).put (some 22) (.int .i64 ((a : Nat) : Int))) = ρ at *
        simp only [List.getElem_toArray, List.getElem_cons_zero, List.getElem_cons_succ]
        go_simp
      refine (refAt_calls v l a _ (hS0.below hA.drew.below)).mono ?_
      rintro e w5 ⟨rfl, hB5⟩
      have hA5 := hA.drew.step hB5
      refine ⟨_, rfl, ⟨_, hA5⟩, ?_⟩
      clear hS s0 s1 fz d1
      have hS : ∃ F', MkAt w w5 1 [(0, #[.int .i64 0, .slice none 0 0])] B N (.slice (some ⟨g2, 0, none⟩) N z2) rbw F' := ⟨_, hA5⟩
      have hA6 := hA5.put (p := a) (q := a) hlt hlt (l.getD a false)
      obtain ⟨_, _, e3, _, _, _, _, s2, fz, _⟩ := hA5.ref.at_ (p := a) (q := a) hlt hlt
      clear e3
      refine anyS_take (i := 9) (d := some 24) (v := .pointer (some ⟨rbw a, a, none⟩)) hS rfl rfl (by kernel_rfl) (by kernel_rfl) (by kernel_rfl) (fun _ _ _ h => h) (by rfl) ?_ ?_
      · intro w9 hSw
        have e19 : Act.eval (((((((((a0.put (some 15) (.pointer (some ⟨B, 1, none⟩))).put (some 16) (.slice (some ⟨g2, 0, none⟩) N z2)).put (some 17) (.int .i64 ((a : Nat) : Int))).put (some 18) (.pointer (some ⟨g2, a, none⟩))).put (some 19) (hdr N (rbw a))).put (some 20) (.int .i64 ((a : Nat) : Int))).put (some 21) (v)).put (some 22) (.int .i64 ((a : Nat) : Int))).put (some 23) (.bool (l.getD a false))) (.tmp 19) = hdr N (rbw a) := by rw [Act.eval_put_ne _ _ _ _ (by decide), Act.eval_put_ne _ _ _ _ (by decide), Act.eval_put_ne _ _ _ _ (by decide), Act.eval_put_ne _ _ _ _ (by decide), Act.eval_put_same _ _ _ (by (repeat rw [Act.size_put]); omega)]
        have e20 : Act.eval (((((((((a0.put (some 15) (.pointer (some ⟨B, 1, none⟩))).put (some 16) (.slice (some ⟨g2, 0, none⟩) N z2)).put (some 17) (.int .i64 ((a : Nat) : Int))).put (some 18) (.pointer (some ⟨g2, a, none⟩))).put (some 19) (hdr N (rbw a))).put (some 20) (.int .i64 ((a : Nat) : Int))).put (some 21) (v)).put (some 22) (.int .i64 ((a : Nat) : Int))).put (some 23) (.bool (l.getD a false))) (.tmp 20) = .int .i64 ((a : Nat) : Int) := by rw [Act.eval_put_ne _ _ _ _ (by decide), Act.eval_put_ne _ _ _ _ (by decide), Act.eval_put_ne _ _ _ _ (by decide), Act.eval_put_same _ _ _ (by (repeat rw [Act.size_put]); omega)]
        have ec : ∀ v, Act.eval (((((((((a0.put (some 15) (.pointer (some ⟨B, 1, none⟩))).put (some 16) (.slice (some ⟨g2, 0, none⟩) N z2)).put (some 17) (.int .i64 ((a : Nat) : Int))).put (some 18) (.pointer (some ⟨g2, a, none⟩))).put (some 19) (hdr N (rbw a))).put (some 20) (.int .i64 ((a : Nat) : Int))).put (some 21) (v)).put (some 22) (.int .i64 ((a : Nat) : Int))).put (some 23) (.bool (l.getD a false))) (.const v) = v := fun _ => rfl
        have ef : ∀ f, Act.eval (((((((((a0.put (some 15) (.pointer (some ⟨B, 1, none⟩))).put (some 16) (.slice (some ⟨g2, 0, none⟩) N z2)).put (some 17) (.int .i64 ((a : Nat) : Int))).put (some 18) (.pointer (some ⟨g2, a, none⟩))).put (some 19) (hdr N (rbw a))).put (some 20) (.int .i64 ((a : Nat) : Int))).put (some 21) (v)).put (some 22) (.int .i64 ((a : Nat) : Int))).put (some 23) (.bool (l.getD a false))) (.func f) = .func (.func f) #[] #[] := fun _ => rfl
        generalize Act.eval (((((((((a0.put (some 15) (.pointer (some ⟨B, 1, none⟩))).put (some 16) (.slice (some ⟨g2, 0, none⟩) N z2)).put (some 17) (.int .i64 ((a : Nat) : Int))).put (some 18) (.pointer (some ⟨g2, a, none⟩))).put (some 19) (hdr N (rbw a))).put (some 20) (.int .i64 ((a : Nat) : Int))).put (some 21) (v)).put (some 22) (.int .i64 ((a : Nat) : Int))).put (some 23) (.bool (l.getD a false))) = ρ at *
        simp only [List.getElem_toArray, List.getElem_cons_zero, List.getElem_cons_succ]
        clear hSw
        go_simp
      refine wpAnyH_ready (rs := [10]) (by kernel_rfl) (by simp) ?_
      refine anyS_skip (i := 10) (d := none) (w' := w5.setCell ⟨rbw a, a, none⟩ (.bool (l.getD a false))) rfl rfl (by rfl) ?_ ⟨_, hA6⟩ ?_ AllReadyH.nil
      · skip
        have e23 : Act.eval ((((((((((a0.put (some 15) (.pointer (some ⟨B, 1, none⟩))).put (some 16) (.slice (some ⟨g2, 0, none⟩) N z2)).put (some 17) (.int .i64 ((a : Nat) : Int))).put (some 18) (.pointer (some ⟨g2, a, none⟩))).put (some 19) (hdr N (rbw a))).put (some 20) (.int .i64 ((a : Nat) : Int))).put (some 21) (v)).put (some 22) (.int .i64 ((a : Nat) : Int))).put (some 23) (.bool (l.getD a false))).put (some 24) (.pointer (some ⟨rbw a, a, none⟩))) (.tmp 23) = .bool (l.getD a false) := by rw [Act.eval_put_ne _ _ _ _ (by decide), Act.eval_put_same _ _ _ (by (repeat rw [Act.size_put]); omega)]
        have e24 : Act.eval ((((((((((a0.put (some 15) (.pointer (some ⟨B, 1, none⟩))).put (some 16) (.slice (some ⟨g2, 0, none⟩) N z2)).put (some 17) (.int .i64 ((a : Nat) : Int))).put (some 18) (.pointer (some ⟨g2, a, none⟩))).put (some 19) (hdr N (rbw a))).put (some 20) (.int .i64 ((a : Nat) : Int))).put (some 21) (v)).put (some 22) (.int .i64 ((a : Nat) : Int))).put (some 23) (.bool (l.getD a false))).put (some 24) (.pointer (some ⟨rbw a, a, none⟩))) (.tmp 24) = .pointer (some ⟨rbw a, a, none⟩) := by rw [Act.eval_put_same _ _ _ (by (repeat rw [Act.size_put]); omega)]
        have ec : ∀ v, Act.eval ((((((((((a0.put (some 15) (.pointer (some ⟨B, 1, none⟩))).put (some 16) (.slice (some ⟨g2, 0, none⟩) N z2)).put (some 17) (.int .i64 ((a : Nat) : Int))).put (some 18) (.pointer (some ⟨g2, a, none⟩))).put (some 19) (hdr N (rbw a))).put (some 20) (.int .i64 ((a : Nat) : Int))).put (some 21) (v)).put (some 22) (.int .i64 ((a : Nat) : Int))).put (some 23) (.bool (l.getD a false))).put (some 24) (.pointer (some ⟨rbw a, a, none⟩))) (.const v) = v := fun _ => rfl
        have ef : ∀ f, Act.eval ((((((((((a0.put (some 15) (.pointer (some ⟨B, 1, none⟩))).put (some 16) (.slice (some ⟨g2, 0, none⟩) N z2)).put (some 17) (.int .i64 ((a : Nat) : Int))).put (some 18) (.pointer (some ⟨g2, a, none⟩))).put (some 19) (hdr N (rbw a))).put (some 20) (.int .i64 ((a : Nat) : Int))).put (some 21) (v)).put (some 22) (.int .i64 ((a : Nat) : Int))).put (some 23) (.bool (l.getD a false))).put (some 24) (.pointer (some ⟨rbw a, a, none⟩))) (.func f) = .func (.func f) #[] #[] := fun _ => rfl
        generalize Act.eval ((((((((((a0.put (some 15) (.pointer (some ⟨B, 1, none⟩))).put (some 16) (.slice (some ⟨g2, 0, none⟩) N z2)).put (some 17) (.int .i64 ((a : Nat) : Int))).put (some 18) (.pointer (some ⟨g2, a, none⟩))).put (some 19) (hdr N (rbw a))).put (some 20) (.int .i64 ((a : Nat) : Int))).put (some 21) (v)).put (some 22) (.int .i64 ((a : Nat) : Int))).put (some 23) (.bool (l.getD a false))).put (some 24) (.pointer (some ⟨rbw a, a, none⟩))) = ρ at *
        simp only [List.getElem_toArray, List.getElem_cons_zero, List.getElem_cons_succ]
        go_simp
      refine wpAnyH_done (by kernel_rfl) ?_ _
      subst hA0
      simp only [Act.put, List.setIfInBounds_toArray, List.set_cons_zero, List.set_cons_succ]
      have hA7 := hA6.congr (G := idF l (a + 1)) (fun p q _ _ => idF_put l a p q)
      clear hA6 hS s2 fz
      go_wp2_with fail
      refine ⟨⟨a + 1, by omega, by go_num, hA7⟩, by simp [intOf]; omega⟩
    · have e : N = a := by omega
      subst e
      have b1 := hA.box.cell (j := 1) rfl
      have hr := hA.fst
      rw [Nat.add_zero] at hr
      have d0 := hr.cell (j := 0) rfl
      have d1 := hr.cell (j := 1) rfl
      have f0 := hr.frozen 0
      have f1 := hr.frozen 1
      go_wp2_with fail
      have hres := (hr.set 0 (.int .i64 ((N : Nat) : Int))).set 1 (.slice x2 y2 z2)
      simp only [List.setIfInBounds_toArray, List.set_cons_zero, List.set_cons_succ] at hres
      (try simp only [Exit.inBlock, Exit.then])
      refine bodyPost_ret (ret_ref rfl rfl hres) rfl ?_
      obtain ⟨hA1, hB1⟩ := hA.answer (r := 0) (by omega)
      rw [Nat.add_zero] at hA1 hB1
      first | exact ⟨_, rbw, rfl, hA1, hB1⟩ | exact ⟨_, rfl, ⟨rbw, hA1⟩, hB1⟩
end Go.Proofs.YtogifpilfckenaaDoor
/- The contract of the document's own Star. -/
namespace Go.Proofs.YtogifpilfckenaaDoor
open Go.RowKit Go.Shelf Sx

set_option maxHeartbeats 2000000 in
theorem refStar_calls (lo N : Nat) (hN : N ≤ 256) (x : Option Addr) (y z : Nat) (rb : Nat → Nat) (F : Nat → Nat → Bool) (w : World) (h : RefM lo w (.slice x y z) N N rb F) :
    Calls Tryd.prog 65 #[.agg #[.int .i64 ((N : Nat) : Int), .slice x y z]] w fun e w' => ∃ M rb', e = .returned (.agg #[.int .i64 ((N : Nat) : Int), M]) ∧ RefM w.heap.size w' M N N rb' (fun p q => plusFn F N p q || decide (p = q)) ∧ Below w.heap.size w w' := by
  go_enter Tryd.func65, Tryd.ntmps65
  go_wp2_with fail
  refine (refPlus_calls lo N hN x y z rb F _ ((h.alloc _).alloc _)).mono ?_
  rintro e w1 ⟨M, rbw, rfl, hRM, hB1⟩
  obtain ⟨x2, y2, z2, rfl⟩ := hRM.slice
  have hW0 : Below w.heap.size w ((w.alloc (.cells #[.int .i64 ((N : Nat) : Int), .slice x y z] 46)).alloc (.cells #[.int .i64 0, .slice none 0 0] 46)) := ((Below.refl _ w).alloc (Nat.le_refl _) _).alloc (by simp) _
  have hr1 := (Blk.new2 w (.cells #[.int .i64 ((N : Nat) : Int), .slice x y z] 46) 46 #[.int .i64 0, .slice none 0 0]).of_below hB1
  have hs1 : w.heap.size + 2 ≤ w1.heap.size := by have := hB1.size; simpa using this
  have hW1 := below_step hW0 hW0.size hB1
  go_wp2_with fail
  refine (refOpt_calls _ N hN x2 y2 z2 rbw (plusFn F N) _ hRM).mono ?_
  rintro e w2 ⟨M3, rb3, rfl, hRM3, hB2⟩
  obtain ⟨x3, y3, z3, rfl⟩ := hRM3.slice
  have hr := hr1.of_below hB2
  have hW2 := below_step hW1 hW1.size hB2
  clear hRM hB1 hB2 hW0 hW1 hr1 h
  have d0 := hr.cell (j := 0) rfl
  have d1 := hr.cell (j := 1) rfl
  have f0 := hr.frozen 0
  have f1 := hr.frozen 1
  go_wp2_with fail
  have hres := (hr.set 0 (.int .i64 ((N : Nat) : Int))).set 1 (.slice x3 y3 z3)
  simp only [List.setIfInBounds_toArray, List.set_cons_zero, List.set_cons_succ] at hres
  (try simp only [Exit.inBlock, Exit.then])
  refine bodyPost_ret (ret_ref rfl rfl hres) rfl ?_
  have hA1 : RefM w.heap.size ((w2.setCell ⟨w.heap.size + 1, 0, none⟩ (.int .i64 ((N : Nat) : Int))).setCell ⟨w.heap.size + 1, 1, none⟩ (.slice x3 y3 z3)) (.slice x3 y3 z3) N N rb3 (fun p q => plusFn F N p q || decide (p = q)) := RefM.mono (hRM3.below' fun g hg _ => by rw [Below.heap_setCell _ _ _ _ (by simp; omega), Below.heap_setCell _ _ _ _ (by simp; omega)]) (by omega)
  have hB1 := (hW2.setCell (p := ⟨w.heap.size + 1, 0, none⟩) (by simp) (.int .i64 ((N : Nat) : Int))).setCell (p := ⟨w.heap.size + 1, 1, none⟩) (by simp) (.slice x3 y3 z3)
  first | exact ⟨_, rb3, rfl, hA1, hB1⟩ | exact ⟨_, rfl, ⟨rb3, hA1⟩, hB1⟩
end Go.Proofs.YtogifpilfckenaaDoor
