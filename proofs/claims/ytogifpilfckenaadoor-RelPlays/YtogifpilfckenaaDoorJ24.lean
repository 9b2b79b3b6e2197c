/- What a step of a play makes: the program's relation and the document's, twins. -/
import Derived.Test.YtogifpilfckenaaDoorJ22
import Derived.Test.YtogifpilfckenaaDoorJ15
import Derived.Test.YtogifpilfckenaaDoorRefCut
import Derived.Test.YtogifpilfckenaaDoorJ20
import Derived.Test.YtogifpilfckenaaDoorJ08
import Derived.Test.YtogifpilfckenaaDoorJ13
import Derived.Test.YtogifpilfckenaaDoorJ17
import Derived.Test.YtogifpilfckenaaDoorJ19
import Derived.Laws.Bits128
namespace Go.Proofs.YtogifpilfckenaaDoor
open Go.RowKit Go.Shelf Sx

def stepA (op s t to a b : Int) (v : Bool) (P R C : Value) : Array Value := #[.int .i64 op, .int .i64 s, .int .i64 t, .int .i64 to, .int .i64 a, .int .i64 b, .bool v, P, R, C]
/-- What made answers where it makes one. -/
def MadeOK (w w' : World) (e : Ending) : Prop :=
  ∃ b c L N M rb F, e = .returned (.tuple #[pv b, .agg #[.int .i64 ((N : Nat) : Int), M], .bool true]) ∧ Made w w' b c L ∧ RefM 0 w' M N N rb F ∧ Twin N F L ∧ N ≤ 256
/-- The program's relation and the document's, twins, in memory. -/
structure Two (w : World) (b c n : Nat) (L : List Nat) (x : Option Addr) (y z : Nat) (rb : Nat → Nat) (F : Nat → Nat → Bool) : Prop where
  rel : IsRel w b c L
  ref : RefM 0 w (.slice x y z) n n rb F
  twin : Twin n F L
  le : n ≤ 256
theorem results_tct {fn : Func} {p q u : Tmp} {ty : TypeId} (h : fn.results = #[.tmp q, .cell p ty, .tmp u]) (tmps : Array Value) (P : Program) (w : World) :
    (results fn tmps).run P w =
      ((asAddr (tmps.getD p undef)).run P w).andThen fun a w₁ => ((loadVar ty a).run P w₁).andThen fun v w₂ => .ok (.tuple #[tmps.getD q undef, v, tmps.getD u undef]) w₂ := by
  simp only [results, h]
  simp [Sem.run_bind, Result.andThen]
theorem ret_ref3 {fn : Func} {p q u : Tmp} {tmps : Array Value} {w : World} {g : Nat} {N M v v0 : Value} (h : fn.results = #[.tmp q, .cell p 46, .tmp u]) (hp : tmps.getD p undef = .pointer (some ⟨g, 0, none⟩)) (hq : tmps.getD q undef = v0) (hu : tmps.getD u undef = v) (hb : Blk w g 46 #[N, M]) :
    (results fn tmps).run Tryd.prog w = .ok (.tuple #[v0, .agg #[N, M], v]) w := by
  have hl := run_loadVar_row (P := Tryd.prog) w g 46 46 #[N, M] (0, 0) _ hb Tryd.underlying46 rfl (by kernel_rfl)
  rw [results_tct h, hp, hq, hu]
  simp [asAddr, hl]
theorem boxes (w : World) (o : Obj) (c d z : Array Value) : Below w.heap.size w ((((w.alloc o).alloc (.cells c 46)).alloc (.cells d 46)).alloc (.cells z 46)) ∧
    Blk ((((w.alloc o).alloc (.cells c 46)).alloc (.cells d 46)).alloc (.cells z 46)) (w.heap.size + 1) 46 c ∧
    Blk ((((w.alloc o).alloc (.cells c 46)).alloc (.cells d 46)).alloc (.cells z 46)) (w.heap.size + 1 + 1) 46 d ∧
    Blk ((((w.alloc o).alloc (.cells c 46)).alloc (.cells d 46)).alloc (.cells z 46)) (w.heap.size + 1 + 1 + 1) 46 z :=
  ⟨((((Below.refl _ w).alloc (Nat.le_refl _) _).alloc (by simp) _).alloc (by simp; omega) _).alloc (by simp; omega) _, ((Blk.new2 w _ _ _).alloc _).alloc _, (Blk.new3 w _ _ _ _).alloc _, Blk.new4 w _ _ _ _ _⟩
/-- A store into a box of the document's relations leaves the tables as they are. -/
theorem RefM.setBox {lo : Nat} {w : World} {M : Value} {k n : Nat} {rb : Nat → Nat} {F : Nat → Nat → Bool} (h : RefM lo w M k n rb F) {g : Nat} {cs : Array Value} (hg : Blk w g 46 cs) (j : Nat) (v : Value) : RefM lo (w.setCell ⟨g, j, none⟩ v) M k n rb F := by
  refine ⟨?_, fun p hp => ⟨(h.row p hp).1, (h.row p hp).2.setOther (fun e => ?_) v⟩, h.apart, h.inj⟩
  · obtain ⟨h1, h2⟩ := h.own
    refine ⟨h1, ?_⟩
    rcases h2 with h2 | ⟨g', cap, cur, e1, e2, e3, e4⟩
    · exact .inl h2
    · refine .inr ⟨g', cap, cur, e1, e2, ?_, e4⟩
      rw [Below.heap_setCell _ _ _ _ (fun e => ?_)]
      · exact e3
      · have hg2 : w.heap[g]? = some (.cells cs 46) := hg
        have e : g' = g := e
        rw [e, hg2] at e3
        simp at e3
  · have h3 : w.heap[rb p]? = some (.cells (arrB (rowL n (F p))) 4) := (h.row p hp).2
    have hg2 : w.heap[g]? = some (.cells cs 46) := hg
    have e : rb p = g := e
    rw [e, hg2] at h3
    simp at h3
/-- How each case of made ends. -/
theorem made_end {w W w1 w2 : World} {b c N lo : Nat} {L : List Nat} {M : Value} {rb : Nat → Nat} {F : Nat → Nat → Bool} {cs : Array Value} (hW : Below w.heap.size w W) (hz : Blk W (w.heap.size + 1 + 1 + 1) 46 cs) (hM : Made W w1 b c L)
    (hB : Below w1.heap.size w1 w2) (hR : RefM lo w2 M N N rb F) (hT : Twin N F L) (hN : N ≤ 256) :
    MadeOK w ((w2.setCell ⟨w.heap.size + 1 + 1 + 1, 0, none⟩ (.int .i64 ((N : Nat) : Int))).setCell ⟨w.heap.size + 1 + 1 + 1, 1, none⟩ M) (.returned (.tuple #[pv b, .agg #[.int .i64 ((N : Nat) : Int), M], .bool true])) := by
  have h1 := hz.lt
  have h2 := hM.hb
  have h3 := hM.hc
  have hz2 := (hz.of_below hM.below).of_below hB
  have hbl : Below w.heap.size w w2 := below_step (below_step hW hW.size hM.below) (by have := hM.below.size; have := hW.size; omega) hB
  refine ⟨b, c, L, N, M, rb, F, rfl, ⟨((hM.rel.below hB).other (by simp; omega) (by simp; omega) _).other (by simp; omega) (by simp; omega) _, by omega, by omega, (hbl.setCell (by simp; omega) _).setCell (by simp; omega) _⟩, ?_, hT, hN⟩
  exact RefM.mono ((hR.setBox hz2 0 _).setBox (hz2.set 0 _) 1 _) (Nat.zero_le _)
theorem Made.undrew {w w' : World} {b c : Nat} {L : List Nat} (h : Made w.drew w' b c L) : Made w w' b c L := ⟨h.rel, h.hb, h.hc, below_of_drew' h.below⟩
end Go.Proofs.YtogifpilfckenaaDoor
/- The contract of made, case by case: the cases with sets, with a list of relations, and none. -/
namespace Go.Proofs.YtogifpilfckenaaDoor
open Go.RowKit Go.Shelf Sx

theorem SetAt.arg {w : World} {v : Value} {l : List Bool} (h : SetAt w v l) : SetArg w v l := by
  rcases h with h | ⟨s, o, cap, h1, h2⟩
  · exact .inl h
  · exact .inr ⟨s, o, cap, h1, h2.lt, h2.cell⟩
theorem cell2 {w : World} {b d : Nat} (h : b ≠ d) (o o1 o2 : Nat) (v1 v2 : Value) : ((w.setCell ⟨d, o1, none⟩ v1).setCell ⟨d, o2, none⟩ v2).cell? ⟨b, o, none⟩ = w.cell? ⟨b, o, none⟩ := by
  rw [World.cell?_setCell_far _ _ _ _ (Ne.symm h), World.cell?_setCell_far _ _ _ _ (Ne.symm h)]
theorem boxes5 (w : World) (o c d z : Array Value) : Below w.heap.size w ((((w.alloc (.cells o 50)).alloc (.cells c 46)).alloc (.cells d 46)).alloc (.cells z 46)) ∧
    Blk ((((w.alloc (.cells o 50)).alloc (.cells c 46)).alloc (.cells d 46)).alloc (.cells z 46)) w.heap.size 50 o ∧
    Blk ((((w.alloc (.cells o 50)).alloc (.cells c 46)).alloc (.cells d 46)).alloc (.cells z 46)) (w.heap.size + 1) 46 c ∧
    Blk ((((w.alloc (.cells o 50)).alloc (.cells c 46)).alloc (.cells d 46)).alloc (.cells z 46)) (w.heap.size + 1 + 1) 46 d ∧
    Blk ((((w.alloc (.cells o 50)).alloc (.cells c 46)).alloc (.cells d 46)).alloc (.cells z 46)) (w.heap.size + 1 + 1 + 1) 46 z := by
  obtain ⟨h1, h2⟩ := boxes w (.cells o 50) c d z
  exact ⟨h1, (((Blk.new w _ _).alloc _).alloc _).alloc _, h2⟩
/-- A step that makes none. -/
def MadeNo (w w' : World) (e : Ending) : Prop := ∃ x y z, e = .returned (.tuple #[.pointer none, .agg #[.int .i64 0, .slice x y z], .bool false]) ∧ Below w.heap.size w w'
theorem hsne1 (k : Nat) : k ≠ k + 1 + 1 + 1 := by omega
theorem hsne2 (k : Nat) : k + 1 ≠ k + 1 + 1 + 1 := by omega
theorem hsne3 (k : Nat) : k + 1 + 1 ≠ k + 1 + 1 + 1 := by omega
theorem rels_many (w : World) (ba ca bb cb b3 c3 : Nat) (A B N : List Nat) (ha : IsRel w ba ca A) (hb : IsRel w bb cb B) (hn : IsRel w b3 c3 N) : RelsAt (w.alloc (.cells #[pv ba, pv bb, pv ba, pv b3, pv bb] 22)) w.heap.size [(ba, ca, A), (bb, cb, B), (ba, ca, A), (b3, c3, N), (bb, cb, B)] := by
  have hk := Blk.new w 22 #[pv ba, pv bb, pv ba, pv b3, pv bb]
  refine ⟨?_, hk.lt, ?_⟩
  · intro i r hi
    match i with
    | 0 => simp at hi; subst hi; exact hk.cell rfl
    | 1 => simp at hi; subst hi; exact hk.cell rfl
    | 2 => simp at hi; subst hi; exact hk.cell rfl
    | 3 => simp at hi; subst hi; exact hk.cell rfl
    | 4 => simp at hi; subst hi; exact hk.cell rfl
    | i + 5 => simp at hi
  · intro i r hi
    match i with
    | 0 => simp at hi; subst hi; exact ha.alloc _
    | 1 => simp at hi; subst hi; exact hb.alloc _
    | 2 => simp at hi; subst hi; exact ha.alloc _
    | 3 => simp at hi; subst hi; exact hn.alloc _
    | 4 => simp at hi; subst hi; exact hb.alloc _
    | i + 5 => simp at hi
theorem Union_many (w : World) (ba ca bb cb b3 c3 : Nat) (A B N : List Nat) (ha : IsRel w ba ca A) (hb : IsRel w bb cb B) (hn : IsRel w b3 c3 N) :
    Calls Tryd.prog 21 #[.slice (some ⟨w.heap.size, 0, none⟩) 5 5] (w.alloc (.cells #[pv ba, pv bb, pv ba, pv b3, pv bb] 22)) fun e w' => ∃ b c, e = .returned (pv b) ∧ Made w w' b c (unionL [A, B, A, N, B]) := by
  refine (Union_calls w.heap.size [(ba, ca, A), (bb, cb, B), (ba, ca, A), (b3, c3, N), (bb, cb, B)] _ (rels_many w ba ca bb cb b3 c3 A B N ha hb hn) (by simp)).mono ?_
  rintro e w1 ⟨b, c, rfl, hM⟩
  refine ⟨b, c, rfl, hM.rel, ?_, ?_, ?_⟩
  · have := hM.hb; simp at this; omega
  · have := hM.hc; simp at this; omega
  · exact ((Below.refl _ w).alloc (Nat.le_refl _) _).trans (hM.below.mono (by simp))
theorem Made.from_ {w w1 w' : World} {b c : Nat} {L : List Nat} (hB : Below w.heap.size w w1) (h : Made w1 w' b c L) : Made w w' b c L := ⟨h.rel, Nat.le_trans hB.size h.hb, Nat.le_trans hB.size h.hc, below_step hB hB.size h.below⟩

end Go.Proofs.YtogifpilfckenaaDoor
/- What a step of a play asks: what lies in memory while it is asked. -/
namespace Go.Proofs.YtogifpilfckenaaDoor
open Go.RowKit Go.Shelf Sx

theorem boxes4 (w : World) (o c d : Array Value) : Below w.heap.size w (((w.alloc (.cells o 50)).alloc (.cells c 46)).alloc (.cells d 46)) ∧
    Blk (((w.alloc (.cells o 50)).alloc (.cells c 46)).alloc (.cells d 46)) w.heap.size 50 o ∧
    Blk (((w.alloc (.cells o 50)).alloc (.cells c 46)).alloc (.cells d 46)) (w.heap.size + 1) 46 c ∧
    Blk (((w.alloc (.cells o 50)).alloc (.cells c 46)).alloc (.cells d 46)) (w.heap.size + 1 + 1) 46 d :=
  ⟨(((Below.refl _ w).alloc (Nat.le_refl _) _).alloc (by simp) _).alloc (by simp; omega) _, ((Blk.new w _ _).alloc _).alloc _, (Blk.new2 w _ _ _).alloc _, Blk.new3 w _ _ _ _⟩
theorem owns_slice {w : World} {base : Nat} {e : TypeId} {size : Nat} {v : Value} {n : Nat} {xs : List Value} (h : w.ownsRow base e size v n xs) : ∃ p cap, v = .slice p n cap := by
  rcases h.2 with ⟨h1, h2⟩ | ⟨g, cap, _, h1, _⟩
  · exact ⟨none, 0, by rw [h1, h2]⟩
  · exact ⟨_, cap, h1⟩
theorem owns_lt {w : World} {base : Nat} {e : TypeId} {size : Nat} {v : Value} {n : Nat} {xs : List Value} (h : w.ownsRow base e size v n xs) {g : Nat} (hg : v.ownBlock = some g) : g < w.heap.size := by
  rcases h.2 with ⟨rfl, _⟩ | ⟨g', cap, cur, rfl, _, h3, _⟩
  · cases hg
  · simp only [Value.ownBlock, Option.some.injEq] at hg
    subst hg
    exact (Array.getElem?_eq_some_iff.1 h3).1
theorem owns_in {w : World} {base : Nat} {e : TypeId} {size : Nat} {p : Option Addr} {n cap : Nat} {xs : List Value} (h : w.ownsRow base e size (.slice p n cap) n xs) {i : Nat} (hi : i < n) : ∃ g cur, p = some ⟨g, 0, none⟩ ∧ base ≤ g ∧ Blk w g e cur ∧ n * size ≤ cur.size ∧ cur.toList.take (n * size) = xs := by
  rcases h.2 with ⟨_, h2⟩ | ⟨g, c, cur, h1, h2, h3, h4, _, h6, h7⟩
  · omega
  · injection h1 with h1 _ _
    exact ⟨g, cur, h1, h2, h3, by rw [h6]; exact Nat.mul_le_mul_right _ h4, h7⟩
theorem owns_put {w : World} {base : Nat} {e : TypeId} {size : Nat} {g n cap : Nat} {xs : List Value} (h : w.ownsRow base e size (.slice (some ⟨g, 0, none⟩) n cap) n xs) (j : Nat) (u : Value) : ∃ xs', (w.setCell ⟨g, j, none⟩ u).ownsRow base e size (.slice (some ⟨g, 0, none⟩) n cap) n xs' := by
  rcases h.2 with ⟨h1, _⟩ | ⟨g', c, cur, h1, h2, h3, h4, h5, h6, _⟩
  · cases h1
  · injection h1 with h1 _ hc
    injection h1 with h1
    injection h1 with h1 _ _
    subst h1; subst hc
    have hb : Blk w g e cur := h3
    refine ⟨(cur.setIfInBounds j u).toList.take (n * size), ?_, .inr ⟨g, cap, _, rfl, h2, hb.set j u, h4, h5, by simpa using h6, rfl⟩⟩
    have := Nat.mul_le_mul_right size h4
    rw [List.length_take, Array.length_toList, Array.size_setIfInBounds, h6]
    exact Nat.min_eq_left this
/-- As owns_put, of a row of truths. -/
theorem owns_putB {w : World} {base : Nat} {g n cap : Nat} {ls : List Bool} (h : w.ownsRow base 4 1 (.slice (some ⟨g, 0, none⟩) n cap) n (ls.map Value.bool)) (j : Nat) (u : Bool) : (w.setCell ⟨g, j, none⟩ (.bool u)).ownsRow base 4 1 (.slice (some ⟨g, 0, none⟩) n cap) n ((ls.set j u).map Value.bool) := by
  rcases h.2 with ⟨h1, _⟩ | ⟨g', c, cur, h1, h2, h3, h4, h5, h6, h7⟩
  · cases h1
  · injection h1 with h1 _ hc
    injection h1 with h1
    injection h1 with h1 _ _
    subst h1; subst hc
    have hb : Blk w g 4 cur := h3
    refine ⟨by have := h.1; simpa using this, .inr ⟨g, cap, _, rfl, h2, hb.set j (.bool u), h4, h5, by simpa using h6, ?_⟩⟩
    rw [List.map_set, ← h7]
    simp [List.take_set]
theorem owns_atB {w : World} {base : Nat} {g n cap : Nat} {ls : List Bool} (h : w.ownsRow base 4 1 (.slice (some ⟨g, 0, none⟩) n cap) n (ls.map Value.bool)) {i : Nat} (hi : i < n) : ∃ u, w.cell? ⟨g, i, none⟩ = some (.bool u) ∧ w.frozen? ⟨g, i, none⟩ = false := by
  obtain ⟨g', cur, h1, _, hb, h4, h5⟩ := owns_in h hi
  injection h1 with h1
  injection h1 with h1 _ _
  subst h1
  have hl := h.1
  rw [List.length_map] at hl
  refine ⟨ls[i]'(by omega), hb.cell ?_, hb.frozen i⟩
  have e : (cur.toList.take (n * 1))[i]? = some (Value.bool (ls[i]'(by omega))) := by rw [h5]; simp
  rw [List.getElem?_take] at e
  split at e
  · rw [← Array.getElem?_toList]; exact e
  · cases e
theorem news_zeros (w : World) : ∀ (j : Nat) (u : Value), ([.int .i64 0, .int .i64 0, .int .i64 0, .int .i64 0, .int .i64 0, .int .i64 0] : List Value)[j]? = some u → (w.alloc (.cells #[.int .i64 0, .int .i64 0, .int .i64 0, .int .i64 0, .int .i64 0, .int .i64 0] 29)).cell? ((⟨w.heap.size, 0, none⟩ : Addr).add j) = some u := by
  intro j u hj
  rw [Addr.add_lit, Nat.zero_add]
  exact (Blk.new w 29 _).cell (by simpa using hj)
theorem owns_grown {w w' : World} {base : Nat} {e : TypeId} {size : Nat} {v : Value} {n : Nat} {xs : List Value} {r : Option Nat} (h : w.ownsRow base e size v n xs) (hg : w.grownBy w' r) (hr : ∀ g, r = some g → g < base) : w'.ownsRow base e size v n xs := by
  refine ⟨h.1, ?_⟩
  rcases h.2 with h2 | ⟨g, cap, cur, h1, h2, h3, h4⟩
  · exact .inl h2
  · refine .inr ⟨g, cap, cur, h1, h2, (hg.block g (Array.getElem?_eq_some_iff.1 h3).1 (fun e => ?_)).trans h3, h4⟩
    have := hr g e.symm
    omega
theorem cyc_short {n : Nat} (hn : n ≤ 256) {A out : List Nat} (ha : WF n A) (h : CycOK A out) : out.length ≤ 256 := by
  rcases cyc_facts hn ha h with ⟨rfl, _⟩ | ⟨s, l, rfl, _, h3, h4, _⟩
  · simp
  · have := nodup_le n (s :: l) h3 (fun x hx => (h4 x hx).2)
    omega
theorem cyc_none {n : Nat} (hn : n ≤ 256) {A out : List Nat} (ha : WF n A) (h : CycOK A out) : (loopsL (plusL A) == 0) = (((out.length : Nat) : Int) == 0) := by
  rw [Bool.eq_iff_iff, beq_iff_eq, beq_iff_eq]
  rcases h with ⟨h1, rfl⟩ | ⟨s, tl, ly, h1, _, rfl⟩
  · refine ⟨fun _ => rfl, fun _ => ?_⟩
    have hlt := loopsL_lt (plusL A)
    rw [(wf_plus ha).len] at hlt
    apply Nat.eq_of_testBit_eq
    intro i
    rw [Nat.zero_testBit]
    by_cases hi : i < 256
    · cases hb : (loopsL (plusL A)).testBit i with
      | false => rfl
      | true =>
        have : i ∈ bitsOf (loopsL (plusL A)) := mem_bitsOf.2 ⟨hi, hb⟩
        rw [h1] at this
        cases this
    · exact Nat.testBit_lt_two_pow (Nat.lt_of_lt_of_le hlt (Nat.pow_le_pow_right (by omega) (by omega)))
  · constructor
    · intro e
      have : s ∈ bitsOf (loopsL (plusL A)) := by rw [h1]; simp
      rw [e, mem_bitsOf, Nat.zero_testBit] at this
      cases this.2
    · intro e
      simp at e
      omega
end Go.Proofs.YtogifpilfckenaaDoor
/- The contract of asked, case by case. -/
namespace Go.Proofs.YtogifpilfckenaaDoor
open Go.RowKit Go.Shelf Sx

set_option maxRecDepth 100000 in
set_option maxHeartbeats 4000000 in
theorem asked_has (s t to a b : Int) (v : Bool) (P R C : Value) (ba ca bb cb n m : Nat) (A B : List Nat) (x : Option Addr) (y z : Nat) (x1 : Option Addr) (y1 z1 : Nat) (rb rb1 : Nat → Nat) (F G : Nat → Nat → Bool) (w : World)
    (h1 : Two w ba ca n A x y z rb F) (_h2 : Two w bb cb m B x1 y1 z1 rb1 G) (_hT : Tab w) :
    Calls Tryd.prog 31 #[.agg (stepA 15 s t to a b v P R C), pv ba, pv bb, .agg #[.int .i64 ((n : Nat) : Int), .slice x y z], .agg #[.int .i64 ((m : Nat) : Int), .slice x1 y1 z1]] w fun e w' => e = .returned (.bool true) ∧ Below w.heap.size w w' := by
  unfold stepA
  go_enter Tryd.func31, Tryd.ntmps31
  go_wp2_with fail
  obtain ⟨hW, hst, hc, hd⟩ := boxes4 w #[.int .i64 15, .int .i64 s, .int .i64 t, .int .i64 to, .int .i64 a, .int .i64 b, .bool v, P, R, C] #[.int .i64 ((n : Nat) : Int), .slice x y z] #[.int .i64 ((m : Nat) : Int), .slice x1 y1 z1]
  generalize (((w.alloc _).alloc _).alloc _) = W at *
  have s4 := hst.cell (j := 4) rfl
  have s5 := hst.cell (j := 5) rfl
  have c0 := hc.cell (j := 0) rfl
  have c1 := hc.cell (j := 1) rfl
  obtain ⟨q1, hq1⟩ : ∃ q, Hid (hasP A a b = q) := ⟨_, rfl⟩
  have hq2 : Hid (hasF n F a b = q1) := (twin_has h1.twin a b).trans hq1.out
  obtain ⟨k1, hk1⟩ : ∃ k, Hid (sizeL A = k) := ⟨_, rfl⟩
  have hk2 : Hid ((prsF n F n 0).length = k1) := (twin_size h1.le h1.twin).symm.trans hk1.out
  have hl : Hid (A.length = n) := h1.twin.wf.len
  go_region_held3 (fun w' => w'.cell? ⟨w.heap.size, 4, none⟩ = some (.int .i64 a) ∧ w'.cell? ⟨w.heap.size, 5, none⟩ = some (.int .i64 b) ∧ w'.cell? ⟨w.heap.size + 1, 0, none⟩ = some (.int .i64 ((n : Nat) : Int)) ∧ w'.cell? ⟨w.heap.size + 1, 1, none⟩ = some (.slice x y z)) (first | assumption | exact ⟨(hst).cell rfl, (hst).cell rfl, (hc).cell rfl, (hc).cell rfl⟩) (first | (go_at_call 39; refine (Has_calls ba ca A a b _ ((h1.rel.below hW).drew)).mono ?_; rw [hq1.out]; rintro e w1 ⟨rfl, hB1⟩; have hX1 := below_of_drew' hB1; have K1 : w1.cell? ⟨w.heap.size, 4, none⟩ = some (.int .i64 a) ∧ w1.cell? ⟨w.heap.size, 5, none⟩ = some (.int .i64 b) ∧ w1.cell? ⟨w.heap.size + 1, 0, none⟩ = some (.int .i64 ((n : Nat) : Int)) ∧ w1.cell? ⟨w.heap.size + 1, 1, none⟩ = some (.slice x y z) := ⟨(hst.of_below hX1).cell rfl, (hst.of_below hX1).cell rfl, (hc.of_below hX1).cell rfl, (hc.of_below hX1).cell rfl⟩) | (go_at_call 67; refine (refHas_calls 0 n x y z rb F a b _ ((h1.ref.below hW).below hX1)).mono ?_; rw [hq2.out]; rintro e w2 ⟨rfl, hB2⟩; have hX2 := below_step hX1 hX1.size hB2; have K2 : w2.cell? ⟨w.heap.size, 4, none⟩ = some (.int .i64 a) ∧ w2.cell? ⟨w.heap.size, 5, none⟩ = some (.int .i64 b) ∧ w2.cell? ⟨w.heap.size + 1, 0, none⟩ = some (.int .i64 ((n : Nat) : Int)) ∧ w2.cell? ⟨w.heap.size + 1, 1, none⟩ = some (.slice x y z) := ⟨(hst.of_below hX2).cell rfl, (hst.of_below hX2).cell rfl, (hc.of_below hX2).cell rfl, (hc.of_below hX2).cell rfl⟩) | (go_at_call 18; refine (Size_calls ba ca A _ ((h1.rel.below hW).below hX2)).mono ?_; rw [hk1.out]; rintro e w3 ⟨rfl, hB3⟩; have hX3 := below_step hX2 hX2.size hB3; have K3 : w3.cell? ⟨w.heap.size, 4, none⟩ = some (.int .i64 a) ∧ w3.cell? ⟨w.heap.size, 5, none⟩ = some (.int .i64 b) ∧ w3.cell? ⟨w.heap.size + 1, 0, none⟩ = some (.int .i64 ((n : Nat) : Int)) ∧ w3.cell? ⟨w.heap.size + 1, 1, none⟩ = some (.slice x y z) := ⟨(hst.of_below hX3).cell rfl, (hst.of_below hX3).cell rfl, (hc.of_below hX3).cell rfl, (hc.of_below hX3).cell rfl⟩) | (go_at_call 68; refine (refPairs_calls 0 n h1.le x y z rb F _ ((h1.ref.below hW).below hX3)).mono ?_; rw [hk2.out]; rintro e w4 ⟨v4, rfl, ho4, hB4⟩; have hX4 := below_step hX3 hX3.size hB4; have K4 : w4.cell? ⟨w.heap.size, 4, none⟩ = some (.int .i64 a) ∧ w4.cell? ⟨w.heap.size, 5, none⟩ = some (.int .i64 b) ∧ w4.cell? ⟨w.heap.size + 1, 0, none⟩ = some (.int .i64 ((n : Nat) : Int)) ∧ w4.cell? ⟨w.heap.size + 1, 1, none⟩ = some (.slice x y z) := ⟨(hst.of_below hX4).cell rfl, (hst.of_below hX4).cell rfl, (hc.of_below hX4).cell rfl, (hc.of_below hX4).cell rfl⟩; obtain ⟨p4, cap4, rfl⟩ := owns_slice ho4) | (go_at_call 25; refine (Len_c ba ca A _ ((h1.rel.below hW).below hX4)).mono ?_; rw [hl.out]; rintro e w5 ⟨rfl, rfl⟩))
  all_goals
    go_wp2_with fail
    go_ret
    exact ⟨rfl, below_step hW hW.size hX4⟩
set_option maxRecDepth 100000 in
set_option maxHeartbeats 4000000 in
theorem asked_equal (s t to a b : Int) (v : Bool) (P R C : Value) (ba ca bb cb n m : Nat) (A B : List Nat) (x : Option Addr) (y z : Nat) (x1 : Option Addr) (y1 z1 : Nat) (rb rb1 : Nat → Nat) (F G : Nat → Nat → Bool) (w : World)
    (h1 : Two w ba ca n A x y z rb F) (h2 : Two w bb cb m B x1 y1 z1 rb1 G) (_hT : Tab w) :
    Calls Tryd.prog 31 #[.agg (stepA 18 s t to a b v P R C), pv ba, pv bb, .agg #[.int .i64 ((n : Nat) : Int), .slice x y z], .agg #[.int .i64 ((m : Nat) : Int), .slice x1 y1 z1]] w fun e w' => e = .returned (.bool true) ∧ Below w.heap.size w w' := by
  unfold stepA
  go_enter Tryd.func31, Tryd.ntmps31
  go_wp2_with fail
  obtain ⟨hW, hst, hc, hd⟩ := boxes4 w #[.int .i64 18, .int .i64 s, .int .i64 t, .int .i64 to, .int .i64 a, .int .i64 b, .bool v, P, R, C] #[.int .i64 ((n : Nat) : Int), .slice x y z] #[.int .i64 ((m : Nat) : Int), .slice x1 y1 z1]
  generalize (((w.alloc _).alloc _).alloc _) = W at *
  have c0 := hc.cell (j := 0) rfl
  have c1 := hc.cell (j := 1) rfl
  have d0 := hd.cell (j := 0) rfl
  have d1 := hd.cell (j := 1) rfl
  obtain ⟨q1, hq1⟩ : ∃ q, Hid ((A == B) = q) := ⟨_, rfl⟩
  have hq2 : Hid (equalF n m F G = q1) := (twin_equal h1.twin h2.twin).trans hq1.out
  obtain ⟨q3, hq3⟩ : ∃ q, Hid ((sizeL (minusL A B) == 0) = q) := ⟨_, rfl⟩
  have hq4 : Hid (withinF n m F G = q3) := (twin_within h1.le h2.le h1.twin h2.twin).trans hq3.out
  go_region_held3 (fun w' => w'.cell? ⟨w.heap.size + 1, 0, none⟩ = some (.int .i64 ((n : Nat) : Int)) ∧ w'.cell? ⟨w.heap.size + 1, 1, none⟩ = some (.slice x y z) ∧ w'.cell? ⟨w.heap.size + 1 + 1, 0, none⟩ = some (.int .i64 ((m : Nat) : Int)) ∧ w'.cell? ⟨w.heap.size + 1 + 1, 1, none⟩ = some (.slice x1 y1 z1)) (first | assumption | exact ⟨(hc).cell rfl, (hc).cell rfl, (hd).cell rfl, (hd).cell rfl⟩) (first | (go_at_call 26; refine (Equal_calls ba ca bb cb A B _ ((h1.rel.below hW).drew) ((h2.rel.below hW).drew)).mono ?_; rw [hq1.out]; rintro e w1 ⟨rfl, hB1⟩; have hX1 := below_of_drew' hB1; have K1 : w1.cell? ⟨w.heap.size + 1, 0, none⟩ = some (.int .i64 ((n : Nat) : Int)) ∧ w1.cell? ⟨w.heap.size + 1, 1, none⟩ = some (.slice x y z) ∧ w1.cell? ⟨w.heap.size + 1 + 1, 0, none⟩ = some (.int .i64 ((m : Nat) : Int)) ∧ w1.cell? ⟨w.heap.size + 1 + 1, 1, none⟩ = some (.slice x1 y1 z1) := ⟨(hc.of_below hX1).cell rfl, (hc.of_below hX1).cell rfl, (hd.of_below hX1).cell rfl, (hd.of_below hX1).cell rfl⟩) | (go_at_call 72; refine (refEqual_calls 0 0 n m h1.le h2.le x y z rb F x1 y1 z1 rb1 G _ ((h1.ref.below hW).below hX1) ((h2.ref.below hW).below hX1)).mono ?_; rw [hq2.out]; rintro e w2 ⟨rfl, hB2⟩; have hX2 := below_step hX1 hX1.size hB2; have K2 : w2.cell? ⟨w.heap.size + 1, 0, none⟩ = some (.int .i64 ((n : Nat) : Int)) ∧ w2.cell? ⟨w.heap.size + 1, 1, none⟩ = some (.slice x y z) ∧ w2.cell? ⟨w.heap.size + 1 + 1, 0, none⟩ = some (.int .i64 ((m : Nat) : Int)) ∧ w2.cell? ⟨w.heap.size + 1 + 1, 1, none⟩ = some (.slice x1 y1 z1) := ⟨(hc.of_below hX2).cell rfl, (hc.of_below hX2).cell rfl, (hd.of_below hX2).cell rfl, (hd.of_below hX2).cell rfl⟩) | (go_at_call 27; refine (Within_calls ba ca bb cb A B _ ((h1.rel.below hW).below hX2) ((h2.rel.below hW).below hX2)).mono ?_; rw [hq3.out]; rintro e w3 ⟨rfl, hB3⟩; have hX3 := below_step hX2 hX2.size hB3; have K3 : w3.cell? ⟨w.heap.size + 1, 0, none⟩ = some (.int .i64 ((n : Nat) : Int)) ∧ w3.cell? ⟨w.heap.size + 1, 1, none⟩ = some (.slice x y z) ∧ w3.cell? ⟨w.heap.size + 1 + 1, 0, none⟩ = some (.int .i64 ((m : Nat) : Int)) ∧ w3.cell? ⟨w.heap.size + 1 + 1, 1, none⟩ = some (.slice x1 y1 z1) := ⟨(hc.of_below hX3).cell rfl, (hc.of_below hX3).cell rfl, (hd.of_below hX3).cell rfl, (hd.of_below hX3).cell rfl⟩) | (go_at_call 73; refine (refWithin_at 0 0 n m h1.le x y z rb F x1 y1 z1 rb1 G _ ((h1.ref.below hW).below hX3) ((h2.ref.below hW).below hX3) q3 hq4).mono ?_; rintro e w4 ⟨rfl, hB4⟩; have hX4 := below_step hX3 hX3.size hB4; have K4 : w4.cell? ⟨w.heap.size + 1, 0, none⟩ = some (.int .i64 ((n : Nat) : Int)) ∧ w4.cell? ⟨w.heap.size + 1, 1, none⟩ = some (.slice x y z) ∧ w4.cell? ⟨w.heap.size + 1 + 1, 0, none⟩ = some (.int .i64 ((m : Nat) : Int)) ∧ w4.cell? ⟨w.heap.size + 1 + 1, 1, none⟩ = some (.slice x1 y1 z1) := ⟨(hc.of_below hX4).cell rfl, (hc.of_below hX4).cell rfl, (hd.of_below hX4).cell rfl, (hd.of_below hX4).cell rfl⟩))
  all_goals
    go_wp2_with fail
    go_ret
    exact ⟨rfl, below_step hW hW.size hX4⟩
set_option maxRecDepth 100000 in
set_option maxHeartbeats 4000000 in
theorem asked_none (op : Int) (ho : op < 15 ∨ 19 < op) (s t to a b : Int) (v : Bool) (P R C : Value) (ba ca bb cb n m : Nat) (A B : List Nat) (x : Option Addr) (y z : Nat) (x1 : Option Addr) (y1 z1 : Nat) (rb rb1 : Nat → Nat) (F G : Nat → Nat → Bool) (w : World)
    (_h1 : Two w ba ca n A x y z rb F) (_h2 : Two w bb cb m B x1 y1 z1 rb1 G) (_hT : Tab w) :
    Calls Tryd.prog 31 #[.agg (stepA op s t to a b v P R C), pv ba, pv bb, .agg #[.int .i64 ((n : Nat) : Int), .slice x y z], .agg #[.int .i64 ((m : Nat) : Int), .slice x1 y1 z1]] w fun e w' => e = .returned (.bool true) ∧ Below w.heap.size w w' := by
  have q15 : (op == (15 : Int)) = false := by rw [beq_eq_false_iff_ne]; omega
  have q16 : (op == (16 : Int)) = false := by rw [beq_eq_false_iff_ne]; omega
  have q17 : (op == (17 : Int)) = false := by rw [beq_eq_false_iff_ne]; omega
  have q18 : (op == (18 : Int)) = false := by rw [beq_eq_false_iff_ne]; omega
  have q19 : (op == (19 : Int)) = false := by rw [beq_eq_false_iff_ne]; omega
  clear ho
  unfold stepA
  go_enter Tryd.func31, Tryd.ntmps31
  go_wp2_with fail
  obtain ⟨hW, hst, hc, hd⟩ := boxes4 w #[.int .i64 op, .int .i64 s, .int .i64 t, .int .i64 to, .int .i64 a, .int .i64 b, .bool v, P, R, C] #[.int .i64 ((n : Nat) : Int), .slice x y z] #[.int .i64 ((m : Nat) : Int), .slice x1 y1 z1]
  generalize (((w.alloc _).alloc _).alloc _) = W at *
  clear hst hc hd
  go_ret
  exact ⟨rfl, hW⟩
set_option maxRecDepth 100000 in
set_option maxHeartbeats 4000000 in
theorem asked_image (s t to a b : Int) (v : Bool) (P R C : Value) (ba ca bb cb n m : Nat) (A B : List Nat) (x : Option Addr) (y z : Nat) (x1 : Option Addr) (y1 z1 : Nat) (rb rb1 : Nat → Nat) (F G : Nat → Nat → Bool) (w : World)
    (h1 : Two w ba ca n A x y z rb F) (_h2 : Two w bb cb m B x1 y1 z1 rb1 G) (hT : Tab w) (lr : List Bool) (hR : SetAt w R lr) :
    Calls Tryd.prog 31 #[.agg (stepA 16 s t to a b v P R C), pv ba, pv bb, .agg #[.int .i64 ((n : Nat) : Int), .slice x y z], .agg #[.int .i64 ((m : Nat) : Int), .slice x1 y1 z1]] w fun e w' => e = .returned (.bool true) ∧ Below w.heap.size w w' := by
  unfold stepA
  go_enter Tryd.func31, Tryd.ntmps31
  go_wp2_with fail
  obtain ⟨hW, hst, hc, hd⟩ := boxes4 w #[.int .i64 16, .int .i64 s, .int .i64 t, .int .i64 to, .int .i64 a, .int .i64 b, .bool v, P, R, C] #[.int .i64 ((n : Nat) : Int), .slice x y z] #[.int .i64 ((m : Nat) : Int), .slice x1 y1 z1]
  generalize (((w.alloc _).alloc _).alloc _) = W at *
  have hT0 := hT.step hW
  have hR0 := hR.below hW
  obtain ⟨L, hL⟩ : ∃ L, Hid (imgL A lr = L) := ⟨_, rfl⟩
  have hL2 : Hid (rowL n (imgFn lr F n) = L) := (twin_img h1.le h1.twin lr).symm.trans hL.out
  have hLn : L.length = n := by rw [← hL2.out]; simp [rowL]
  have hn := h1.le
  refine (Image_calls ba ca A R lr _ (h1.rel.below hW) hR0 hT0).mono ?_
  rw [hL.out]
  rintro e w1 ⟨v1, rfl, ho1, hB1⟩
  have hg1 := fun g => owns_lt (g := g) ho1
  have s8 := (hst.of_below hB1).cell (j := 8) rfl
  go_wp2_with fail
  refine (Image_calls ba ca A R lr _ ((h1.rel.below hW).below hB1) (hR0.below hB1) (hT0.step hB1)).mono ?_
  rw [hL.out]
  rintro e w2 ⟨v2, rfl, ho2, hB2⟩
  have hX2 := below_step hB1 hB1.size hB2
  clear s8
  have s8 := (hst.of_below hX2).cell (j := 8) rfl
  have c0 := (hc.of_below hX2).cell (j := 0) rfl
  have c1 := (hc.of_below hX2).cell (j := 1) rfl
  go_wp2_with fail
  refine (refImage_calls 0 n h1.le x y z rb F R lr _ ((h1.ref.below hW).below hX2) ((hR0.below hX2).arg)).mono ?_
  rw [hL2.out]
  rintro e w3 ⟨lb, rfl, hlb, ho3, hB3⟩
  have hX3 := below_step hX2 hX2.size hB3
  have hW3 : SetAt2 w3 (.slice (some ⟨lb, 0, none⟩) n n) L := .inr ⟨lb, 0, n, by rw [hLn], ho3.lt, fun i u hu => by rw [Nat.zero_add]; exact ho3.cell (by simp [arrB, hu])⟩
  have ho1 := owns_step (owns_step ho1 hB2) hB3
  have ho2 := owns_step ho2 hB3
  clear s8 c0 c1
  go_wp2_with fail
  refine (truths_calls _ _ L L _ (owns_bools ho1) hW3 (by omega) (by omega)).mono ?_
  rw [beq_self_eq_true]
  rintro e w4 ⟨rfl, hB4⟩
  have hX4 := below_step hX3 hX3.size hB4
  have ho1 := owns_step ho1 hB4
  have ho2 := owns_step ho2 hB4
  have ho3 := ho3.of_below hB4
  rw [hLn] at ho1 ho2
  obtain ⟨p1, cap1, rfl⟩ := owns_slice ho1
  have hlt1 := hB1.size
  have hlt2 := hB2.size
  clear hB1 hB2 hB3 hB4 hX2 hX3 hW3
  go_wp2_with fail
  go_loopw [15] (fun i wr => ∃ k, k ≤ n ∧ i = .int .i64 ((k : Nat) : Int) ∧ Below W.heap.size W wr ∧ (∃ ls : List Bool, wr.ownsRow W.heap.size 4 1 (.slice p1 n cap1) n (ls.map Value.bool)) ∧ wr.ownsRow w1.heap.size 4 1 v2 n (L.map Value.bool) ∧ Blk wr lb 4 (arrB L)) (fun i _ => n - (intOf i).toNat)
  case atStart => exact ⟨0, by omega, rfl, hX4, ⟨L, ho1⟩, ho2, ho3⟩
  case round =>
    clear hX4 ho1 ho2 ho3
    obtain ⟨k, hk, rfl, hX, ⟨ls, ho1⟩, ho2, ho3⟩ := hrel
    by_cases hlt : k < n
    · obtain ⟨g, _, rfl, hg, _⟩ := owns_in ho1 hlt
      have hg1 := hg1 g rfl
      obtain ⟨u, cu, fu⟩ := owns_atB ho1 hlt
      go_wp2_with fail
      refine ⟨⟨k + 1, by omega, by go_num, hX.setCell (by simpa using hg) _, ⟨_, owns_putB ho1 k (!u)⟩, owns_set ho2 (owns_ne ho2 hg1) _, ho3.setOther (by simp; omega) _⟩, by simp [intOf]; omega⟩
    · go_wp2_with fail
      refine (truths_calls _ _ L L _ (owns_bools (by rw [hLn]; exact ho2)) (.inr ⟨lb, 0, n, by rw [hLn], ho3.lt, fun i u hu => by rw [Nat.zero_add]; exact ho3.cell (by simp [arrB, hu])⟩) (by omega) (by omega)).mono ?_
      rw [beq_self_eq_true]
      rintro e w5 ⟨rfl, hB5⟩
      go_wp2_with fail
      go_ret
      exact ⟨rfl, below_step hW hW.size (below_step hX hX.size hB5)⟩
set_option maxRecDepth 100000 in
set_option maxHeartbeats 4000000 in
theorem asked_cycle (s t to a b : Int) (v : Bool) (P R C : Value) (ba ca bb cb n m : Nat) (A B : List Nat) (x : Option Addr) (y z : Nat) (x1 : Option Addr) (y1 z1 : Nat) (rb rb1 : Nat → Nat) (F G : Nat → Nat → Bool) (w : World)
    (h1 : Two w ba ca n A x y z rb F) (_h2 : Two w bb cb m B x1 y1 z1 rb1 G) (hT : Tab w) :
    Calls Tryd.prog 31 #[.agg (stepA 17 s t to a b v P R C), pv ba, pv bb, .agg #[.int .i64 ((n : Nat) : Int), .slice x y z], .agg #[.int .i64 ((m : Nat) : Int), .slice x1 y1 z1]] w fun e w' => e = .returned (.bool true) ∧ Below w.heap.size w w' := by
  unfold stepA
  go_enter Tryd.func31, Tryd.ntmps31
  go_wp2_with fail
  obtain ⟨hW, hst, hc, hd⟩ := boxes4 w #[.int .i64 17, .int .i64 s, .int .i64 t, .int .i64 to, .int .i64 a, .int .i64 b, .bool v, P, R, C] #[.int .i64 ((n : Nat) : Int), .slice x y z] #[.int .i64 ((m : Nat) : Int), .slice x1 y1 z1]
  generalize (((w.alloc _).alloc _).alloc _) = W at *
  have hT0 := hT.step hW
  refine (Cycle_calls ba ca A _ (h1.rel.below hW) hT0).mono ?_
  rintro e w1 ⟨v1, out, rfl, hcy, ho1, hB1⟩
  have hg1 := fun g => owns_lt (g := g) ho1
  have c0 := (hc.of_below hB1).cell (j := 0) rfl
  have c1 := (hc.of_below hB1).cell (j := 1) rfl
  go_wp2_with fail
  refine (refCycle_calls 0 n h1.le x y z rb F _ ((h1.ref.below hW).below hB1)).mono ?_
  rintro e w2 ⟨v2, out', rfl, hrc, ho2, hB2⟩
  have eo := cyc_same h1.le h1.twin.same h1.twin.wf hcy hrc
  rw [eo] at hrc ho2
  clear eo
  have hsh := cyc_short h1.le h1.twin.wf hcy
  have hX2 := below_step hB1 hB1.size hB2
  have ho1 := owns_step ho1 hB2
  clear c0 c1
  go_wp2_with fail
  refine (ints_calls _ _ (out.map (fun x => ((x : Nat) : Int))) (out.map (fun x => ((x : Nat) : Int))) _ (owns_ints ho1) (owns_ints ho2) (by simp; omega) (by simp; omega)).mono ?_
  rw [beq_self_eq_true]
  rintro e w4 ⟨rfl, hB4⟩
  have hX4 := below_step hX2 hX2.size hB4
  have ho1 := owns_step ho1 hB4
  have ho2 := owns_step ho2 hB4
  obtain ⟨q1, hq1⟩ : ∃ q, Hid ((loopsL (plusL A) == 0) = q) := ⟨_, rfl⟩
  have hq2 : (((out.length : Nat) : Int) == 0) = q1 := (cyc_none h1.le h1.twin.wf hcy).symm.trans hq1.out
  obtain ⟨q3, hq3⟩ : ∃ q, Hid ((loopsL A == 0) = q) := ⟨_, rfl⟩
  have hq4 : Hid (irrF n F = q3) := (twin_irr h1.twin).trans hq3.out
  have HR := hid_of hrc
  have HL := hid_of (show (out.map (fun x => ((x : Nat) : Int))).length ≤ 100000 by simp; omega)
  obtain ⟨p1, cap1, rfl⟩ := owns_slice ho1
  obtain ⟨p2, cap2, rfl⟩ := owns_slice ho2
  clear hcy hrc hB2 hB4 hX2
  go_wp2_with fail
  go_loopw [19] (fun i wr => ∃ k, k ≤ out.length ∧ i = .int .i64 ((k : Nat) : Int) ∧ Below W.heap.size W wr ∧ (∃ xs, wr.ownsRow W.heap.size 3 1 (.slice p1 out.length cap1) out.length xs) ∧ wr.ownsRow w1.heap.size 3 1 (.slice p2 out.length cap2) out.length (encI out)) (fun i _ => out.length - (intOf i).toNat)
  case atStart => exact ⟨0, by omega, rfl, hX4, ⟨_, ho1⟩, ho2⟩
  case round =>
    clear hX4 ho1 ho2
    obtain ⟨k, hk, rfl, hX, ⟨xs, ho1⟩, ho2⟩ := hrel
    by_cases hlt : k < out.length
    · obtain ⟨g, cur, rfl, hg, hb, hcs, _⟩ := owns_in ho1 hlt
      have hg1 := hg1 g rfl
      have cu := hb.cell (Array.getElem?_eq_getElem (show k < cur.size by omega))
      have fu := hb.frozen k
      go_wp2_with fail
      refine ⟨⟨k + 1, by omega, by go_num, hX.setCell (by simpa using hg) _, owns_put ho1 k _, owns_set ho2 (owns_ne ho2 hg1) _⟩, by simp [intOf]; omega⟩
    · have c0 := (hc.of_below hX).cell (j := 0) rfl
      have c1 := (hc.of_below hX).cell (j := 1) rfl
      go_wp2_with fail
      go_region_held3 (fun w' => w'.cell? ⟨w.heap.size + 1, 0, none⟩ = some (.int .i64 ((n : Nat) : Int)) ∧ w'.cell? ⟨w.heap.size + 1, 1, none⟩ = some (.slice x y z)) (first | assumption | exact ⟨c0, c1⟩) (first | (go_at_call 37; refine (Cycle_calls ba ca A _ ((h1.rel.below hW).below hX).drew ((hT0.step hX).drew)).mono ?_; rintro e w5 ⟨v5, out5, rfl, hcy5, ho5, hB5⟩; have hX5 := below_step hX hX.size (below_of_drew' hB5); have e5 : out5 = out := (cyc_same h1.le h1.twin.same h1.twin.wf hcy5 HR.out).symm; rw [e5] at ho5; have K5 : w5.cell? ⟨w.heap.size + 1, 0, none⟩ = some (.int .i64 ((n : Nat) : Int)) ∧ w5.cell? ⟨w.heap.size + 1, 1, none⟩ = some (.slice x y z) := ⟨(hc.of_below hX5).cell rfl, (hc.of_below hX5).cell rfl⟩) | (go_at_call 41; refine (ints_calls _ _ (out.map (fun x => ((x : Nat) : Int))) (out.map (fun x => ((x : Nat) : Int))) _ (owns_ints ho5) (owns_ints (owns_step ho2 (below_of_drew' hB5))) HL.out HL.out).mono ?_; rw [beq_self_eq_true]; rintro e w6 ⟨rfl, hB6⟩; have hX6 := below_step hX5 hX5.size hB6; have K6 : w6.cell? ⟨w.heap.size + 1, 0, none⟩ = some (.int .i64 ((n : Nat) : Int)) ∧ w6.cell? ⟨w.heap.size + 1, 1, none⟩ = some (.slice x y z) := ⟨(hc.of_below hX6).cell rfl, (hc.of_below hX6).cell rfl⟩) | (go_at_call 35; refine (Acyclic_calls ba ca A _ ((h1.rel.below hW).below hX6)).mono ?_; rw [hq1.out]; rintro e w7 ⟨rfl, hB7⟩; have hX7 := below_step hX6 hX6.size hB7; have K7 : w7.cell? ⟨w.heap.size + 1, 0, none⟩ = some (.int .i64 ((n : Nat) : Int)) ∧ w7.cell? ⟨w.heap.size + 1, 1, none⟩ = some (.slice x y z) := ⟨(hc.of_below hX7).cell rfl, (hc.of_below hX7).cell rfl⟩) | (go_at_call 36; refine (Irr_calls ba ca A _ ((h1.rel.below hW).below hX7)).mono ?_; rw [hq3.out]; rintro e w8 ⟨rfl, hB8⟩; have hX8 := below_step hX7 hX7.size hB8; have K8 : w8.cell? ⟨w.heap.size + 1, 0, none⟩ = some (.int .i64 ((n : Nat) : Int)) ∧ w8.cell? ⟨w.heap.size + 1, 1, none⟩ = some (.slice x y z) := ⟨(hc.of_below hX8).cell rfl, (hc.of_below hX8).cell rfl⟩) | (go_at_call 71; refine (refIrr_calls 0 n h1.le x y z rb F _ ((h1.ref.below hW).below hX8) q3 hq4).mono ?_; rintro e w9 ⟨rfl, hB9⟩; have hX9 := below_step hX8 hX8.size hB9; have K9 : w9.cell? ⟨w.heap.size + 1, 0, none⟩ = some (.int .i64 ((n : Nat) : Int)) ∧ w9.cell? ⟨w.heap.size + 1, 1, none⟩ = some (.slice x y z) := ⟨(hc.of_below hX9).cell rfl, (hc.of_below hX9).cell rfl⟩))
      all_goals
        go_wp2_with fail
        go_ret
        exact ⟨rfl, below_step hW hW.size hX9⟩
set_option maxRecDepth 100000 in
set_option maxHeartbeats 4000000 in
theorem asked_look (s t to a b : Int) (v : Bool) (P R C : Value) (ba ca bb cb n m : Nat) (A B : List Nat) (x : Option Addr) (y z : Nat) (x1 : Option Addr) (y1 z1 : Nat) (rb rb1 : Nat → Nat) (F G : Nat → Nat → Bool) (w : World)
    (h1 : Two w ba ca n A x y z rb F) (_h2 : Two w bb cb m B x1 y1 z1 rb1 G) (hT : Tab w) :
    Calls Tryd.prog 31 #[.agg (stepA 19 s t to a b v P R C), pv ba, pv bb, .agg #[.int .i64 ((n : Nat) : Int), .slice x y z], .agg #[.int .i64 ((m : Nat) : Int), .slice x1 y1 z1]] w fun e w' => e = .returned (.bool true) ∧ Below w.heap.size w w' := by
  unfold stepA
  go_enter Tryd.func31, Tryd.ntmps31
  go_wp2_with fail
  obtain ⟨hW, hst, hc, hd⟩ := boxes4 w #[.int .i64 19, .int .i64 s, .int .i64 t, .int .i64 to, .int .i64 a, .int .i64 b, .bool v, P, R, C] #[.int .i64 ((n : Nat) : Int), .slice x y z] #[.int .i64 ((m : Nat) : Int), .slice x1 y1 z1]
  generalize (((w.alloc _).alloc _).alloc _) = W at *
  obtain ⟨i0, hi, hz0, hz1, hz2⟩ := info_parts Tryd.infopair
  have hT0 := hT.step hW
  obtain ⟨Q, hQ⟩ : ∃ Q, Hid (pairsL A = Q) := ⟨_, rfl⟩
  have hQ2 : Hid (prsF n F n 0 = Q) := (twin_pairs h1.le h1.twin).symm.trans hQ.out
  have hQl : Q.length ≤ 65536 := by
    rw [← hQ.out]
    have := pairsK_length A A.length
    have e := h1.twin.wf.len
    have := h1.le
    unfold pairsL
    omega
  have HL := hid_of (show (Q.map (fun x => (((x.1 : Nat) : Int), ((x.2 : Nat) : Int)))).length ≤ 100000 by simp; omega)
  refine (Pairs_calls ba ca A _ (h1.rel.below hW) hT0).mono ?_
  rw [hQ.out]
  rintro e w1 ⟨v1, rfl, ho1, hB1⟩
  have hg1 := fun g => owns_lt (g := g) ho1
  have c0 := (hc.of_below hB1).cell (j := 0) rfl
  have c1 := (hc.of_below hB1).cell (j := 1) rfl
  go_wp2_with fail
  refine (refPairs_calls 0 n h1.le x y z rb F _ ((h1.ref.below hW).below hB1)).mono ?_
  rw [hQ2.out]
  rintro e w2 ⟨v2, rfl, ho2, hB2⟩
  have hX2 := below_step hB1 hB1.size hB2
  have ho1 := owns_step ho1 hB2
  clear c0 c1
  go_wp2_with fail
  refine (pairs_calls _ _ (Q.map (fun x => (((x.1 : Nat) : Int), ((x.2 : Nat) : Int)))) (Q.map (fun x => (((x.1 : Nat) : Int), ((x.2 : Nat) : Int)))) _ (owns_pairs ho1) (owns_pairs ho2) HL.out HL.out).mono ?_
  rw [beq_self_eq_true]
  rintro e w4 ⟨rfl, hB4⟩
  have hX4 := below_step hX2 hX2.size hB4
  have ho1 := owns_step ho1 hB4
  have ho2 := owns_step ho2 hB4
  obtain ⟨p1, cap1, rfl⟩ := owns_slice ho1
  obtain ⟨p2, cap2, rfl⟩ := owns_slice ho2
  clear hB2 hB4 hX2
  go_wp2_with fail
  go_loopw [23] (fun i wr => ∃ k, k ≤ Q.length ∧ i = .int .i64 ((k : Nat) : Int) ∧ Below W.heap.size W wr ∧ (∃ xs, wr.ownsRow W.heap.size 29 2 (.slice p1 Q.length cap1) Q.length xs) ∧ wr.ownsRow w1.heap.size 29 2 (.slice p2 Q.length cap2) Q.length (encPs Q)) (fun i _ => Q.length - (intOf i).toNat)
  case atStart => exact ⟨0, by omega, rfl, hX4, ⟨_, ho1⟩, ho2⟩
  case round =>
    clear hX4 ho1 ho2
    obtain ⟨k, hk, rfl, hX, ⟨xs, ho1⟩, ho2⟩ := hrel
    by_cases hlt : k < Q.length
    · obtain ⟨g, cur, rfl, hg, hb, hcs, _⟩ := owns_in ho1 hlt
      have hg1 := hg1 g rfl
      have cu := hb.cell (Array.getElem?_eq_getElem (show k * 2 < cur.size by omega))
      have cu1 := hb.cell (Array.getElem?_eq_getElem (show k * 2 + 1 < cur.size by omega))
      have fu := hb.frozen (k * 2)
      have fu1 := hb.frozen (k * 2 + 1)
      go_wp2_with fail
      obtain ⟨xs1, ho11⟩ := owns_put ho1 (k * 2) (.int .i64 (-1))
      refine ⟨⟨k + 1, by omega, by go_num, (hX.setCell (by simpa using hg) _).setCell (by simpa using hg) _, owns_put ho11 (k * 2 + 1) _, owns_set (owns_set ho2 (owns_ne ho2 hg1) _) (owns_ne ho2 hg1) _⟩, by simp [intOf]; omega⟩
    · go_wp2_with (at_builtin; refine wpList_append_own _ rfl _ _ 26 rfl W.heap.size 29 i0 (.agg #[.int .i64 0, .int .i64 0]) 2 16 Tryd.underlying26 hi hz0 hz1 hz2 rfl (by decide) (.slice p1 Q.length cap1) Q.length xs rfl (ho1.alloc _) ⟨wr.heap.size, 0, none⟩ 3 3 [.int .i64 0, .int .i64 0, .int .i64 0, .int .i64 0, .int .i64 0, .int .i64 0] rfl rfl (news_zeros wr) (by simp [Value.oneCell']) (by unfold maxLen; omega) (by omega) (by have := hX.size; simp; omega) ?_; intro v' w5 hown hgrow _)
      obtain ⟨p', cap', rfl⟩ := owns_slice hown
      have hX5 : Below W.heap.size W w5 := (hX.alloc hX.size _).grown hgrow (by have := hX.size; simp; omega) (fun k e => owns_ge ho1 e)
      have ho2 := owns_grown (ho2.alloc _) hgrow (fun g e => hg1 g e)
      clear hown hgrow ho1 hX
      refine (Pairs_calls ba ca A _ ((h1.rel.below hW).below hX5) (hT0.step hX5)).mono ?_
      rw [hQ.out]
      rintro e w6 ⟨v6, rfl, ho6, hB6⟩
      have ho2 := owns_step ho2 hB6
      have hX6 := below_step hX5 hX5.size hB6
      clear hB6 hX5
      go_wp2_with fail
      refine (pairs_calls _ _ (Q.map (fun x => (((x.1 : Nat) : Int), ((x.2 : Nat) : Int)))) (Q.map (fun x => (((x.1 : Nat) : Int), ((x.2 : Nat) : Int)))) _ (owns_pairs ho6) (owns_pairs ho2) HL.out HL.out).mono ?_
      rw [beq_self_eq_true]
      rintro e w7 ⟨rfl, hB7⟩
      have hX7 := below_step hX6 hX6.size hB7
      clear hB7 hX6 ho6 ho2
      go_wp2_with fail
      go_ret
      exact ⟨rfl, below_step hW hW.size hX7⟩
end Go.Proofs.YtogifpilfckenaaDoor
/- The contract of made, case by case. -/
namespace Go.Proofs.YtogifpilfckenaaDoor
open Go.RowKit Go.Shelf Sx

set_option maxRecDepth 100000 in
set_option maxHeartbeats 4000000 in
theorem made_new (s t to a b : Int) (v : Bool) (P R C : Value) (ba ca bb cb n m : Nat) (A B : List Nat) (x : Option Addr) (y z : Nat) (x1 : Option Addr) (y1 z1 : Nat) (rb rb1 : Nat → Nat) (F G : Nat → Nat → Bool) (w : World)
    (_h1 : Two w ba ca n A x y z rb F) (_h2 : Two w bb cb m B x1 y1 z1 rb1 G) (_hT : Tab w) :
    Calls Tryd.prog 30 #[.agg (stepA 0 s t to a b v P R C), pv ba, pv bb, .agg #[.int .i64 ((n : Nat) : Int), .slice x y z], .agg #[.int .i64 ((m : Nat) : Int), .slice x1 y1 z1]] w fun e w' => MadeOK w w' e := by
  unfold stepA
  go_enter Tryd.func30, Tryd.ntmps30
  go_wp2_with fail
  obtain ⟨hW, hst, hc, hd, hz⟩ := boxes5 w #[.int .i64 0, .int .i64 s, .int .i64 t, .int .i64 to, .int .i64 a, .int .i64 b, .bool v, P, R, C] #[.int .i64 ((n : Nat) : Int), .slice x y z] #[.int .i64 ((m : Nat) : Int), .slice x1 y1 z1] #[.int .i64 0, .slice none 0 0]
  generalize ((((w.alloc _).alloc _).alloc _).alloc _) = W at *
  have s4 := hst.cell (j := 4) rfl
  go_region_held3 (fun w' => w'.cell? ⟨w.heap.size, 4, none⟩ = some (.int .i64 a)) (first | assumption | exact (hst).cell rfl | exact (hst.drew.alloc _).cell rfl | (simp only [cell2 (hsne1 w.heap.size)]; assumption)) (first | (go_at_call 13; refine (New_calls a _).mono ?_; rintro e w1 ⟨b', c', rfl, n1, n2, n3, n4⟩; have hM : Made W.drew w1 b' c' _ := ⟨n1, n2, n3, n4⟩; have K1 : w1.cell? ⟨w.heap.size, 4, none⟩ = some (.int .i64 a) := (hst.drew.of_below hM.below).cell rfl) | (go_at_call 28; refine (refNew_calls a _).mono ?_; rintro e w2 ⟨M, rb', rfl, hRM, hB2⟩; obtain ⟨x2, y2, z2, rfl⟩ := hRM.slice; have hz2 := (hz.drew.of_below hM.below).of_below hB2; have e0 := hz2.cell (j := 0) rfl; have e1 := hz2.cell (j := 1) rfl; have f0 := hz2.frozen 0; have f1 := hz2.frozen 1; have K2 : w2.cell? ⟨w.heap.size, 4, none⟩ = some (.int .i64 a) := ((hst.drew.of_below hM.below).of_below hB2).cell rfl))
  all_goals
    go_wp2_with fail
    have hres := (hz2.set 0 (.int .i64 ((clampN a : Nat) : Int))).set 1 (.slice x2 y2 z2)
    simp only [List.setIfInBounds_toArray, List.set_cons_zero, List.set_cons_succ] at hres
    exact bodyPost_ret (ret_ref3 rfl rfl rfl rfl hres) rfl (made_end hW hz hM.undrew hB2 hRM (twin_zero (clampN a)) (by unfold clampN; omega))
set_option maxRecDepth 100000 in
set_option maxHeartbeats 4000000 in
theorem made_ident (s t to a b : Int) (v : Bool) (P R C : Value) (ba ca bb cb n m : Nat) (A B : List Nat) (x : Option Addr) (y z : Nat) (x1 : Option Addr) (y1 z1 : Nat) (rb rb1 : Nat → Nat) (F G : Nat → Nat → Bool) (w : World)
    (_h1 : Two w ba ca n A x y z rb F) (_h2 : Two w bb cb m B x1 y1 z1 rb1 G) (hT : Tab w) (lr : List Bool) (hR : SetAt w R lr) :
    Calls Tryd.prog 30 #[.agg (stepA 2 s t to a b v P R C), pv ba, pv bb, .agg #[.int .i64 ((n : Nat) : Int), .slice x y z], .agg #[.int .i64 ((m : Nat) : Int), .slice x1 y1 z1]] w fun e w' => MadeOK w w' e := by
  unfold stepA
  go_enter Tryd.func30, Tryd.ntmps30
  go_wp2_with fail
  obtain ⟨hW, hst, hc, hd, hz⟩ := boxes5 w #[.int .i64 2, .int .i64 s, .int .i64 t, .int .i64 to, .int .i64 a, .int .i64 b, .bool v, P, R, C] #[.int .i64 ((n : Nat) : Int), .slice x y z] #[.int .i64 ((m : Nat) : Int), .slice x1 y1 z1] #[.int .i64 0, .slice none 0 0]
  generalize ((((w.alloc _).alloc _).alloc _).alloc _) = W at *
  have s4 := hst.cell (j := 4) rfl
  have s8 := hst.cell (j := 8) rfl
  obtain ⟨N, HN⟩ : ∃ N, Hid (clampN a = N) := ⟨_, rfl⟩
  have hN : N ≤ 256 := by rw [← HN.out]; unfold clampN; omega
  go_region_held3 (fun w' => w'.cell? ⟨w.heap.size, 4, none⟩ = some (.int .i64 a) ∧ w'.cell? ⟨w.heap.size, 8, none⟩ = some (R)) (first | assumption | exact ⟨(hst).cell rfl, (hst).cell rfl⟩ | exact ⟨(hst.drew.alloc _).cell rfl, (hst.drew.alloc _).cell rfl⟩ | (simp only [cell2 (hsne1 w.heap.size)]; assumption)) (first | (go_at_call 24; refine (Ident_calls a R lr _ (hR.below hW).drew ((hT.step hW).drew)).mono ?_; rintro e w1 ⟨b', c', rfl, hM⟩; have K1 : w1.cell? ⟨w.heap.size, 4, none⟩ = some (.int .i64 a) ∧ w1.cell? ⟨w.heap.size, 8, none⟩ = some (R) := ⟨(hst.drew.of_below hM.below).cell rfl, (hst.drew.of_below hM.below).cell rfl⟩) | (go_at_call 57; refine (refIdent_at a R lr _ (((hR.below hW).drew.below hM.below).arg) N HN).mono ?_; rintro e w2 ⟨M, rb', rfl, hRM, hB2⟩; obtain ⟨x2, y2, z2, rfl⟩ := hRM.slice; have hz2 := (hz.drew.of_below hM.below).of_below hB2; have e0 := hz2.cell (j := 0) rfl; have e1 := hz2.cell (j := 1) rfl; have f0 := hz2.frozen 0; have f1 := hz2.frozen 1; have K2 : w2.cell? ⟨w.heap.size, 4, none⟩ = some (.int .i64 a) ∧ w2.cell? ⟨w.heap.size, 8, none⟩ = some (R) := ⟨((hst.drew.of_below hM.below).of_below hB2).cell rfl, ((hst.drew.of_below hM.below).of_below hB2).cell rfl⟩))
  all_goals
    go_wp2_with fail
    have hres := (hz2.set 0 (.int .i64 ((N : Nat) : Int))).set 1 (.slice x2 y2 z2)
    simp only [List.setIfInBounds_toArray, List.set_cons_zero, List.set_cons_succ] at hres
    exact bodyPost_ret (ret_ref3 rfl rfl rfl rfl hres) rfl (made_end hW hz hM.undrew hB2 hRM (HN.out ▸ twin_ident a lr) hN)
set_option maxRecDepth 100000 in
set_option maxHeartbeats 4000000 in
theorem made_union (s t to a b : Int) (v : Bool) (P R C : Value) (ba ca bb cb n m : Nat) (A B : List Nat) (x : Option Addr) (y z : Nat) (x1 : Option Addr) (y1 z1 : Nat) (rb rb1 : Nat → Nat) (F G : Nat → Nat → Bool) (w : World)
    (h1 : Two w ba ca n A x y z rb F) (h2 : Two w bb cb m B x1 y1 z1 rb1 G) (_hT : Tab w) :
    Calls Tryd.prog 30 #[.agg (stepA 5 s t to a b v P R C), pv ba, pv bb, .agg #[.int .i64 ((n : Nat) : Int), .slice x y z], .agg #[.int .i64 ((m : Nat) : Int), .slice x1 y1 z1]] w fun e w' => MadeOK w w' e := by
  unfold stepA
  go_enter Tryd.func30, Tryd.ntmps30
  go_wp2_with fail
  obtain ⟨hW, hst, hc, hd, hz⟩ := boxes5 w #[.int .i64 5, .int .i64 s, .int .i64 t, .int .i64 to, .int .i64 a, .int .i64 b, .bool v, P, R, C] #[.int .i64 ((n : Nat) : Int), .slice x y z] #[.int .i64 ((m : Nat) : Int), .slice x1 y1 z1] #[.int .i64 0, .slice none 0 0]
  generalize ((((w.alloc _).alloc _).alloc _).alloc _) = W at *
  have c0 := hc.cell (j := 0) rfl
  have c1 := hc.cell (j := 1) rfl
  have d0 := hd.cell (j := 0) rfl
  have d1 := hd.cell (j := 1) rfl
  obtain ⟨N, HN⟩ : ∃ N, Hid (N = max n m) := ⟨_, rfl⟩
  have hN : N ≤ 256 := by have := h1.le; have := h2.le; have := HN.out; omega
  go_region_held3 (fun w' => w'.cell? ⟨w.heap.size + 1, 0, none⟩ = some (.int .i64 ((n : Nat) : Int)) ∧ w'.cell? ⟨w.heap.size + 1, 1, none⟩ = some (.slice x y z) ∧ w'.cell? ⟨w.heap.size + 1 + 1, 0, none⟩ = some (.int .i64 ((m : Nat) : Int)) ∧ w'.cell? ⟨w.heap.size + 1 + 1, 1, none⟩ = some (.slice x1 y1 z1)) (first | assumption | exact ⟨(hc).cell rfl, (hc).cell rfl, (hd).cell rfl, (hd).cell rfl⟩ | exact ⟨(hc.drew.alloc _).cell rfl, (hc.drew.alloc _).cell rfl, (hd.drew.alloc _).cell rfl, (hd.drew.alloc _).cell rfl⟩ | (simp only [cell2 (hsne2 w.heap.size), cell2 (hsne3 w.heap.size)]; assumption)) (first | (go_at_call 21; refine (Union_two W.drew ba ca bb cb A B ((h1.rel.below hW).drew) ((h2.rel.below hW).drew)).mono ?_; rintro e w1 ⟨b', c', rfl, hM⟩; have K1 : w1.cell? ⟨w.heap.size + 1, 0, none⟩ = some (.int .i64 ((n : Nat) : Int)) ∧ w1.cell? ⟨w.heap.size + 1, 1, none⟩ = some (.slice x y z) ∧ w1.cell? ⟨w.heap.size + 1 + 1, 0, none⟩ = some (.int .i64 ((m : Nat) : Int)) ∧ w1.cell? ⟨w.heap.size + 1 + 1, 1, none⟩ = some (.slice x1 y1 z1) := ⟨(hc.drew.of_below hM.below).cell rfl, (hc.drew.of_below hM.below).cell rfl, (hd.drew.of_below hM.below).cell rfl, (hd.drew.of_below hM.below).cell rfl⟩) | (go_at_call 58; refine (refUnion_calls 0 0 n m N h1.le h2.le HN x y z rb F x1 y1 z1 rb1 G _ ((h1.ref.below hW).drew.below hM.below) ((h2.ref.below hW).drew.below hM.below)).mono ?_; rintro e w2 ⟨M, rb', rfl, hRM, hB2⟩; obtain ⟨x2, y2, z2, rfl⟩ := hRM.slice; have hz2 := (hz.drew.of_below hM.below).of_below hB2; have e0 := hz2.cell (j := 0) rfl; have e1 := hz2.cell (j := 1) rfl; have f0 := hz2.frozen 0; have f1 := hz2.frozen 1; have K2 : w2.cell? ⟨w.heap.size + 1, 0, none⟩ = some (.int .i64 ((n : Nat) : Int)) ∧ w2.cell? ⟨w.heap.size + 1, 1, none⟩ = some (.slice x y z) ∧ w2.cell? ⟨w.heap.size + 1 + 1, 0, none⟩ = some (.int .i64 ((m : Nat) : Int)) ∧ w2.cell? ⟨w.heap.size + 1 + 1, 1, none⟩ = some (.slice x1 y1 z1) := ⟨((hc.drew.of_below hM.below).of_below hB2).cell rfl, ((hc.drew.of_below hM.below).of_below hB2).cell rfl, ((hd.drew.of_below hM.below).of_below hB2).cell rfl, ((hd.drew.of_below hM.below).of_below hB2).cell rfl⟩))
  all_goals
    go_wp2_with fail
    have hres := (hz2.set 0 (.int .i64 ((N : Nat) : Int))).set 1 (.slice x2 y2 z2)
    simp only [List.setIfInBounds_toArray, List.set_cons_zero, List.set_cons_succ] at hres
    exact bodyPost_ret (ret_ref3 rfl rfl rfl rfl hres) rfl (made_end hW hz hM.undrew hB2 hRM (twin_union h1.twin h2.twin HN.out) hN)
set_option maxRecDepth 100000 in
set_option maxHeartbeats 4000000 in
theorem made_cut (s t to a b : Int) (v : Bool) (P R C : Value) (ba ca bb cb n m : Nat) (A B : List Nat) (x : Option Addr) (y z : Nat) (x1 : Option Addr) (y1 z1 : Nat) (rb rb1 : Nat → Nat) (F G : Nat → Nat → Bool) (w : World)
    (h1 : Two w ba ca n A x y z rb F) (_h2 : Two w bb cb m B x1 y1 z1 rb1 G) (hT : Tab w) (lr : List Bool) (hR : SetAt w R lr) (lc : List Bool) (hC : SetAt w C lc) :
    Calls Tryd.prog 30 #[.agg (stepA 10 s t to a b v P R C), pv ba, pv bb, .agg #[.int .i64 ((n : Nat) : Int), .slice x y z], .agg #[.int .i64 ((m : Nat) : Int), .slice x1 y1 z1]] w fun e w' => MadeOK w w' e := by
  unfold stepA
  go_enter Tryd.func30, Tryd.ntmps30
  go_wp2_with fail
  obtain ⟨hW, hst, hc, hd, hz⟩ := boxes5 w #[.int .i64 10, .int .i64 s, .int .i64 t, .int .i64 to, .int .i64 a, .int .i64 b, .bool v, P, R, C] #[.int .i64 ((n : Nat) : Int), .slice x y z] #[.int .i64 ((m : Nat) : Int), .slice x1 y1 z1] #[.int .i64 0, .slice none 0 0]
  generalize ((((w.alloc _).alloc _).alloc _).alloc _) = W at *
  have s8 := hst.cell (j := 8) rfl
  have s9 := hst.cell (j := 9) rfl
  have c0 := hc.cell (j := 0) rfl
  have c1 := hc.cell (j := 1) rfl
  go_region_held3 (fun w' => w'.cell? ⟨w.heap.size, 8, none⟩ = some (R) ∧ w'.cell? ⟨w.heap.size, 9, none⟩ = some (C) ∧ w'.cell? ⟨w.heap.size + 1, 0, none⟩ = some (.int .i64 ((n : Nat) : Int)) ∧ w'.cell? ⟨w.heap.size + 1, 1, none⟩ = some (.slice x y z)) (first | assumption | exact ⟨(hst).cell rfl, (hst).cell rfl, (hc).cell rfl, (hc).cell rfl⟩ | exact ⟨(hst.drew.alloc _).cell rfl, (hst.drew.alloc _).cell rfl, (hc.drew.alloc _).cell rfl, (hc.drew.alloc _).cell rfl⟩ | (simp only [cell2 (hsne1 w.heap.size), cell2 (hsne2 w.heap.size)]; assumption)) (first | (go_at_call 17; refine (Cut_calls ba ca A R C lr lc _ ((h1.rel.below hW).drew) (hR.below hW).drew (hC.below hW).drew ((hT.step hW).drew)).mono ?_; rintro e w1 ⟨b', c', rfl, hM⟩; have K1 : w1.cell? ⟨w.heap.size, 8, none⟩ = some (R) ∧ w1.cell? ⟨w.heap.size, 9, none⟩ = some (C) ∧ w1.cell? ⟨w.heap.size + 1, 0, none⟩ = some (.int .i64 ((n : Nat) : Int)) ∧ w1.cell? ⟨w.heap.size + 1, 1, none⟩ = some (.slice x y z) := ⟨(hst.drew.of_below hM.below).cell rfl, (hst.drew.of_below hM.below).cell rfl, (hc.drew.of_below hM.below).cell rfl, (hc.drew.of_below hM.below).cell rfl⟩) | (go_at_call 63; refine (refCut_calls 0 n h1.le x y z rb F R C lr lc _ ((h1.ref.below hW).drew.below hM.below) (((hR.below hW).drew.below hM.below).arg) (((hC.below hW).drew.below hM.below).arg)).mono ?_; rintro e w2 ⟨M, rb', rfl, hRM, hB2⟩; obtain ⟨x2, y2, z2, rfl⟩ := hRM.slice; have hz2 := (hz.drew.of_below hM.below).of_below hB2; have e0 := hz2.cell (j := 0) rfl; have e1 := hz2.cell (j := 1) rfl; have f0 := hz2.frozen 0; have f1 := hz2.frozen 1; have K2 : w2.cell? ⟨w.heap.size, 8, none⟩ = some (R) ∧ w2.cell? ⟨w.heap.size, 9, none⟩ = some (C) ∧ w2.cell? ⟨w.heap.size + 1, 0, none⟩ = some (.int .i64 ((n : Nat) : Int)) ∧ w2.cell? ⟨w.heap.size + 1, 1, none⟩ = some (.slice x y z) := ⟨((hst.drew.of_below hM.below).of_below hB2).cell rfl, ((hst.drew.of_below hM.below).of_below hB2).cell rfl, ((hc.drew.of_below hM.below).of_below hB2).cell rfl, ((hc.drew.of_below hM.below).of_below hB2).cell rfl⟩))
  all_goals
    go_wp2_with fail
    have hres := (hz2.set 0 (.int .i64 ((n : Nat) : Int))).set 1 (.slice x2 y2 z2)
    simp only [List.setIfInBounds_toArray, List.set_cons_zero, List.set_cons_succ] at hres
    exact bodyPost_ret (ret_ref3 rfl rfl rfl rfl hres) rfl (made_end hW hz hM.undrew hB2 hRM (twin_cut h1.le h1.twin lr lc) h1.le)
set_option maxRecDepth 100000 in
set_option maxHeartbeats 4000000 in
theorem made_inverse (s t to a b : Int) (v : Bool) (P R C : Value) (ba ca bb cb n m : Nat) (A B : List Nat) (x : Option Addr) (y z : Nat) (x1 : Option Addr) (y1 z1 : Nat) (rb rb1 : Nat → Nat) (F G : Nat → Nat → Bool) (w : World)
    (h1 : Two w ba ca n A x y z rb F) (_h2 : Two w bb cb m B x1 y1 z1 rb1 G) (hT : Tab w) :
    Calls Tryd.prog 30 #[.agg (stepA 9 s t to a b v P R C), pv ba, pv bb, .agg #[.int .i64 ((n : Nat) : Int), .slice x y z], .agg #[.int .i64 ((m : Nat) : Int), .slice x1 y1 z1]] w fun e w' => MadeOK w w' e := by
  unfold stepA
  go_enter Tryd.func30, Tryd.ntmps30
  go_wp2_with fail
  obtain ⟨hW, hst, hc, hd, hz⟩ := boxes5 w #[.int .i64 9, .int .i64 s, .int .i64 t, .int .i64 to, .int .i64 a, .int .i64 b, .bool v, P, R, C] #[.int .i64 ((n : Nat) : Int), .slice x y z] #[.int .i64 ((m : Nat) : Int), .slice x1 y1 z1] #[.int .i64 0, .slice none 0 0]
  generalize ((((w.alloc _).alloc _).alloc _).alloc _) = W at *
  have c0 := hc.cell (j := 0) rfl
  have c1 := hc.cell (j := 1) rfl
  go_region_held3 (fun w' => w'.cell? ⟨w.heap.size + 1, 0, none⟩ = some (.int .i64 ((n : Nat) : Int)) ∧ w'.cell? ⟨w.heap.size + 1, 1, none⟩ = some (.slice x y z)) (first | assumption | exact ⟨(hc).cell rfl, (hc).cell rfl⟩ | exact ⟨(hc.drew.alloc _).cell rfl, (hc.drew.alloc _).cell rfl⟩ | (simp only [cell2 (hsne2 w.heap.size)]; assumption)) (first | (go_at_call 16; refine (Inverse_calls ba ca A _ ((h1.rel.below hW).drew) ((hT.step hW).drew)).mono ?_; rintro e w1 ⟨b', c', rfl, hM⟩; have K1 : w1.cell? ⟨w.heap.size + 1, 0, none⟩ = some (.int .i64 ((n : Nat) : Int)) ∧ w1.cell? ⟨w.heap.size + 1, 1, none⟩ = some (.slice x y z) := ⟨(hc.drew.of_below hM.below).cell rfl, (hc.drew.of_below hM.below).cell rfl⟩) | (go_at_call 62; refine (refInverse_calls 0 n h1.le x y z rb F _ ((h1.ref.below hW).drew.below hM.below)).mono ?_; rintro e w2 ⟨M, rb', rfl, hRM, hB2⟩; obtain ⟨x2, y2, z2, rfl⟩ := hRM.slice; have hz2 := (hz.drew.of_below hM.below).of_below hB2; have e0 := hz2.cell (j := 0) rfl; have e1 := hz2.cell (j := 1) rfl; have f0 := hz2.frozen 0; have f1 := hz2.frozen 1; have K2 : w2.cell? ⟨w.heap.size + 1, 0, none⟩ = some (.int .i64 ((n : Nat) : Int)) ∧ w2.cell? ⟨w.heap.size + 1, 1, none⟩ = some (.slice x y z) := ⟨((hc.drew.of_below hM.below).of_below hB2).cell rfl, ((hc.drew.of_below hM.below).of_below hB2).cell rfl⟩))
  all_goals
    go_wp2_with fail
    have hres := (hz2.set 0 (.int .i64 ((n : Nat) : Int))).set 1 (.slice x2 y2 z2)
    simp only [List.setIfInBounds_toArray, List.set_cons_zero, List.set_cons_succ] at hres
    exact bodyPost_ret (ret_ref3 rfl rfl rfl rfl hres) rfl (made_end hW hz hM.undrew hB2 hRM (twin_inv h1.le h1.twin) h1.le)
set_option maxRecDepth 100000 in
set_option maxHeartbeats 4000000 in
theorem made_plus (s t to a b : Int) (v : Bool) (P R C : Value) (ba ca bb cb n m : Nat) (A B : List Nat) (x : Option Addr) (y z : Nat) (x1 : Option Addr) (y1 z1 : Nat) (rb rb1 : Nat → Nat) (F G : Nat → Nat → Bool) (w : World)
    (h1 : Two w ba ca n A x y z rb F) (_h2 : Two w bb cb m B x1 y1 z1 rb1 G) (_hT : Tab w) :
    Calls Tryd.prog 30 #[.agg (stepA 11 s t to a b v P R C), pv ba, pv bb, .agg #[.int .i64 ((n : Nat) : Int), .slice x y z], .agg #[.int .i64 ((m : Nat) : Int), .slice x1 y1 z1]] w fun e w' => MadeOK w w' e := by
  unfold stepA
  go_enter Tryd.func30, Tryd.ntmps30
  go_wp2_with fail
  obtain ⟨hW, hst, hc, hd, hz⟩ := boxes5 w #[.int .i64 11, .int .i64 s, .int .i64 t, .int .i64 to, .int .i64 a, .int .i64 b, .bool v, P, R, C] #[.int .i64 ((n : Nat) : Int), .slice x y z] #[.int .i64 ((m : Nat) : Int), .slice x1 y1 z1] #[.int .i64 0, .slice none 0 0]
  generalize ((((w.alloc _).alloc _).alloc _).alloc _) = W at *
  have c0 := hc.cell (j := 0) rfl
  have c1 := hc.cell (j := 1) rfl
  go_region_held3 (fun w' => w'.cell? ⟨w.heap.size + 1, 0, none⟩ = some (.int .i64 ((n : Nat) : Int)) ∧ w'.cell? ⟨w.heap.size + 1, 1, none⟩ = some (.slice x y z)) (first | assumption | exact ⟨(hc).cell rfl, (hc).cell rfl⟩ | exact ⟨(hc.drew.alloc _).cell rfl, (hc.drew.alloc _).cell rfl⟩ | (simp only [cell2 (hsne2 w.heap.size)]; assumption)) (first | (go_at_call 34; refine (Plus_calls ba ca A _ ((h1.rel.below hW).drew)).mono ?_; rintro e w1 ⟨b', c', rfl, hM⟩; have K1 : w1.cell? ⟨w.heap.size + 1, 0, none⟩ = some (.int .i64 ((n : Nat) : Int)) ∧ w1.cell? ⟨w.heap.size + 1, 1, none⟩ = some (.slice x y z) := ⟨(hc.drew.of_below hM.below).cell rfl, (hc.drew.of_below hM.below).cell rfl⟩) | (go_at_call 64; refine (refPlus_calls 0 n h1.le x y z rb F _ ((h1.ref.below hW).drew.below hM.below)).mono ?_; rintro e w2 ⟨M, rb', rfl, hRM, hB2⟩; obtain ⟨x2, y2, z2, rfl⟩ := hRM.slice; have hz2 := (hz.drew.of_below hM.below).of_below hB2; have e0 := hz2.cell (j := 0) rfl; have e1 := hz2.cell (j := 1) rfl; have f0 := hz2.frozen 0; have f1 := hz2.frozen 1; have K2 : w2.cell? ⟨w.heap.size + 1, 0, none⟩ = some (.int .i64 ((n : Nat) : Int)) ∧ w2.cell? ⟨w.heap.size + 1, 1, none⟩ = some (.slice x y z) := ⟨((hc.drew.of_below hM.below).of_below hB2).cell rfl, ((hc.drew.of_below hM.below).of_below hB2).cell rfl⟩))
  all_goals
    go_wp2_with fail
    have hres := (hz2.set 0 (.int .i64 ((n : Nat) : Int))).set 1 (.slice x2 y2 z2)
    simp only [List.setIfInBounds_toArray, List.set_cons_zero, List.set_cons_succ] at hres
    exact bodyPost_ret (ret_ref3 rfl rfl rfl rfl hres) rfl (made_end hW hz hM.undrew hB2 hRM (twin_plus h1.twin) h1.le)
set_option maxRecDepth 100000 in
set_option maxHeartbeats 4000000 in
theorem made_star (s t to a b : Int) (v : Bool) (P R C : Value) (ba ca bb cb n m : Nat) (A B : List Nat) (x : Option Addr) (y z : Nat) (x1 : Option Addr) (y1 z1 : Nat) (rb rb1 : Nat → Nat) (F G : Nat → Nat → Bool) (w : World)
    (h1 : Two w ba ca n A x y z rb F) (_h2 : Two w bb cb m B x1 y1 z1 rb1 G) (_hT : Tab w) :
    Calls Tryd.prog 30 #[.agg (stepA 12 s t to a b v P R C), pv ba, pv bb, .agg #[.int .i64 ((n : Nat) : Int), .slice x y z], .agg #[.int .i64 ((m : Nat) : Int), .slice x1 y1 z1]] w fun e w' => MadeOK w w' e := by
  unfold stepA
  go_enter Tryd.func30, Tryd.ntmps30
  go_wp2_with fail
  obtain ⟨hW, hst, hc, hd, hz⟩ := boxes5 w #[.int .i64 12, .int .i64 s, .int .i64 t, .int .i64 to, .int .i64 a, .int .i64 b, .bool v, P, R, C] #[.int .i64 ((n : Nat) : Int), .slice x y z] #[.int .i64 ((m : Nat) : Int), .slice x1 y1 z1] #[.int .i64 0, .slice none 0 0]
  generalize ((((w.alloc _).alloc _).alloc _).alloc _) = W at *
  have c0 := hc.cell (j := 0) rfl
  have c1 := hc.cell (j := 1) rfl
  go_region_held3 (fun w' => w'.cell? ⟨w.heap.size + 1, 0, none⟩ = some (.int .i64 ((n : Nat) : Int)) ∧ w'.cell? ⟨w.heap.size + 1, 1, none⟩ = some (.slice x y z)) (first | assumption | exact ⟨(hc).cell rfl, (hc).cell rfl⟩ | exact ⟨(hc.drew.alloc _).cell rfl, (hc.drew.alloc _).cell rfl⟩ | (simp only [cell2 (hsne2 w.heap.size)]; assumption)) (first | (go_at_call 12; refine (Star_calls ba ca A _ ((h1.rel.below hW).drew)).mono ?_; rintro e w1 ⟨b', c', rfl, hM⟩; have K1 : w1.cell? ⟨w.heap.size + 1, 0, none⟩ = some (.int .i64 ((n : Nat) : Int)) ∧ w1.cell? ⟨w.heap.size + 1, 1, none⟩ = some (.slice x y z) := ⟨(hc.drew.of_below hM.below).cell rfl, (hc.drew.of_below hM.below).cell rfl⟩) | (go_at_call 65; refine (refStar_calls 0 n h1.le x y z rb F _ ((h1.ref.below hW).drew.below hM.below)).mono ?_; rintro e w2 ⟨M, rb', rfl, hRM, hB2⟩; obtain ⟨x2, y2, z2, rfl⟩ := hRM.slice; have hz2 := (hz.drew.of_below hM.below).of_below hB2; have e0 := hz2.cell (j := 0) rfl; have e1 := hz2.cell (j := 1) rfl; have f0 := hz2.frozen 0; have f1 := hz2.frozen 1; have K2 : w2.cell? ⟨w.heap.size + 1, 0, none⟩ = some (.int .i64 ((n : Nat) : Int)) ∧ w2.cell? ⟨w.heap.size + 1, 1, none⟩ = some (.slice x y z) := ⟨((hc.drew.of_below hM.below).of_below hB2).cell rfl, ((hc.drew.of_below hM.below).of_below hB2).cell rfl⟩))
  all_goals
    go_wp2_with fail
    have hres := (hz2.set 0 (.int .i64 ((n : Nat) : Int))).set 1 (.slice x2 y2 z2)
    simp only [List.setIfInBounds_toArray, List.set_cons_zero, List.set_cons_succ] at hres
    exact bodyPost_ret (ret_ref3 rfl rfl rfl rfl hres) rfl (made_end hW hz hM.undrew hB2 hRM (twin_star h1.twin) h1.le)
set_option maxRecDepth 100000 in
set_option maxHeartbeats 4000000 in
theorem made_opt (s t to a b : Int) (v : Bool) (P R C : Value) (ba ca bb cb n m : Nat) (A B : List Nat) (x : Option Addr) (y z : Nat) (x1 : Option Addr) (y1 z1 : Nat) (rb rb1 : Nat → Nat) (F G : Nat → Nat → Bool) (w : World)
    (h1 : Two w ba ca n A x y z rb F) (_h2 : Two w bb cb m B x1 y1 z1 rb1 G) (_hT : Tab w) :
    Calls Tryd.prog 30 #[.agg (stepA 13 s t to a b v P R C), pv ba, pv bb, .agg #[.int .i64 ((n : Nat) : Int), .slice x y z], .agg #[.int .i64 ((m : Nat) : Int), .slice x1 y1 z1]] w fun e w' => MadeOK w w' e := by
  unfold stepA
  go_enter Tryd.func30, Tryd.ntmps30
  go_wp2_with fail
  obtain ⟨hW, hst, hc, hd, hz⟩ := boxes5 w #[.int .i64 13, .int .i64 s, .int .i64 t, .int .i64 to, .int .i64 a, .int .i64 b, .bool v, P, R, C] #[.int .i64 ((n : Nat) : Int), .slice x y z] #[.int .i64 ((m : Nat) : Int), .slice x1 y1 z1] #[.int .i64 0, .slice none 0 0]
  generalize ((((w.alloc _).alloc _).alloc _).alloc _) = W at *
  have c0 := hc.cell (j := 0) rfl
  have c1 := hc.cell (j := 1) rfl
  go_region_held3 (fun w' => w'.cell? ⟨w.heap.size + 1, 0, none⟩ = some (.int .i64 ((n : Nat) : Int)) ∧ w'.cell? ⟨w.heap.size + 1, 1, none⟩ = some (.slice x y z)) (first | assumption | exact ⟨(hc).cell rfl, (hc).cell rfl⟩ | exact ⟨(hc.drew.alloc _).cell rfl, (hc.drew.alloc _).cell rfl⟩ | (simp only [cell2 (hsne2 w.heap.size)]; assumption)) (first | (go_at_call 14; refine (Opt_calls ba ca A _ ((h1.rel.below hW).drew)).mono ?_; rintro e w1 ⟨b', c', rfl, hM⟩; have K1 : w1.cell? ⟨w.heap.size + 1, 0, none⟩ = some (.int .i64 ((n : Nat) : Int)) ∧ w1.cell? ⟨w.heap.size + 1, 1, none⟩ = some (.slice x y z) := ⟨(hc.drew.of_below hM.below).cell rfl, (hc.drew.of_below hM.below).cell rfl⟩) | (go_at_call 66; refine (refOpt_calls 0 n h1.le x y z rb F _ ((h1.ref.below hW).drew.below hM.below)).mono ?_; rintro e w2 ⟨M, rb', rfl, hRM, hB2⟩; obtain ⟨x2, y2, z2, rfl⟩ := hRM.slice; have hz2 := (hz.drew.of_below hM.below).of_below hB2; have e0 := hz2.cell (j := 0) rfl; have e1 := hz2.cell (j := 1) rfl; have f0 := hz2.frozen 0; have f1 := hz2.frozen 1; have K2 : w2.cell? ⟨w.heap.size + 1, 0, none⟩ = some (.int .i64 ((n : Nat) : Int)) ∧ w2.cell? ⟨w.heap.size + 1, 1, none⟩ = some (.slice x y z) := ⟨((hc.drew.of_below hM.below).of_below hB2).cell rfl, ((hc.drew.of_below hM.below).of_below hB2).cell rfl⟩))
  all_goals
    go_wp2_with fail
    have hres := (hz2.set 0 (.int .i64 ((n : Nat) : Int))).set 1 (.slice x2 y2 z2)
    simp only [List.setIfInBounds_toArray, List.set_cons_zero, List.set_cons_succ] at hres
    exact bodyPost_ret (ret_ref3 rfl rfl rfl rfl hres) rfl (made_end hW hz hM.undrew hB2 hRM (twin_opt h1.twin) h1.le)
set_option maxRecDepth 100000 in
set_option maxHeartbeats 4000000 in
theorem made_inter (s t to a b : Int) (v : Bool) (P R C : Value) (ba ca bb cb n m : Nat) (A B : List Nat) (x : Option Addr) (y z : Nat) (x1 : Option Addr) (y1 z1 : Nat) (rb rb1 : Nat → Nat) (F G : Nat → Nat → Bool) (w : World)
    (h1 : Two w ba ca n A x y z rb F) (h2 : Two w bb cb m B x1 y1 z1 rb1 G) (_hT : Tab w) :
    Calls Tryd.prog 30 #[.agg (stepA 6 s t to a b v P R C), pv ba, pv bb, .agg #[.int .i64 ((n : Nat) : Int), .slice x y z], .agg #[.int .i64 ((m : Nat) : Int), .slice x1 y1 z1]] w fun e w' => MadeOK w w' e := by
  unfold stepA
  go_enter Tryd.func30, Tryd.ntmps30
  go_wp2_with fail
  obtain ⟨hW, hst, hc, hd, hz⟩ := boxes5 w #[.int .i64 6, .int .i64 s, .int .i64 t, .int .i64 to, .int .i64 a, .int .i64 b, .bool v, P, R, C] #[.int .i64 ((n : Nat) : Int), .slice x y z] #[.int .i64 ((m : Nat) : Int), .slice x1 y1 z1] #[.int .i64 0, .slice none 0 0]
  generalize ((((w.alloc _).alloc _).alloc _).alloc _) = W at *
  have c0 := hc.cell (j := 0) rfl
  have c1 := hc.cell (j := 1) rfl
  have d0 := hd.cell (j := 0) rfl
  have d1 := hd.cell (j := 1) rfl
  obtain ⟨N, HN⟩ : ∃ N, Hid (N = max n m) := ⟨_, rfl⟩
  have hN : N ≤ 256 := by have := h1.le; have := h2.le; have := HN.out; omega
  go_region_held3 (fun w' => w'.cell? ⟨w.heap.size + 1, 0, none⟩ = some (.int .i64 ((n : Nat) : Int)) ∧ w'.cell? ⟨w.heap.size + 1, 1, none⟩ = some (.slice x y z) ∧ w'.cell? ⟨w.heap.size + 1 + 1, 0, none⟩ = some (.int .i64 ((m : Nat) : Int)) ∧ w'.cell? ⟨w.heap.size + 1 + 1, 1, none⟩ = some (.slice x1 y1 z1)) (first | assumption | exact ⟨(hc).cell rfl, (hc).cell rfl, (hd).cell rfl, (hd).cell rfl⟩ | exact ⟨(hc.drew.alloc _).cell rfl, (hc.drew.alloc _).cell rfl, (hd.drew.alloc _).cell rfl, (hd.drew.alloc _).cell rfl⟩ | (simp only [cell2 (hsne2 w.heap.size), cell2 (hsne3 w.heap.size)]; assumption)) (first | (go_at_call 22; refine (Inter_calls ba ca bb cb A B _ ((h1.rel.below hW).drew) ((h2.rel.below hW).drew)).mono ?_; rintro e w1 ⟨b', c', rfl, hM⟩; have K1 : w1.cell? ⟨w.heap.size + 1, 0, none⟩ = some (.int .i64 ((n : Nat) : Int)) ∧ w1.cell? ⟨w.heap.size + 1, 1, none⟩ = some (.slice x y z) ∧ w1.cell? ⟨w.heap.size + 1 + 1, 0, none⟩ = some (.int .i64 ((m : Nat) : Int)) ∧ w1.cell? ⟨w.heap.size + 1 + 1, 1, none⟩ = some (.slice x1 y1 z1) := ⟨(hc.drew.of_below hM.below).cell rfl, (hc.drew.of_below hM.below).cell rfl, (hd.drew.of_below hM.below).cell rfl, (hd.drew.of_below hM.below).cell rfl⟩) | (go_at_call 59; refine (refInter_calls 0 0 n m N h1.le h2.le HN x y z rb F x1 y1 z1 rb1 G _ ((h1.ref.below hW).drew.below hM.below) ((h2.ref.below hW).drew.below hM.below)).mono ?_; rintro e w2 ⟨M, rb', rfl, hRM, hB2⟩; obtain ⟨x2, y2, z2, rfl⟩ := hRM.slice; have hz2 := (hz.drew.of_below hM.below).of_below hB2; have e0 := hz2.cell (j := 0) rfl; have e1 := hz2.cell (j := 1) rfl; have f0 := hz2.frozen 0; have f1 := hz2.frozen 1; have K2 : w2.cell? ⟨w.heap.size + 1, 0, none⟩ = some (.int .i64 ((n : Nat) : Int)) ∧ w2.cell? ⟨w.heap.size + 1, 1, none⟩ = some (.slice x y z) ∧ w2.cell? ⟨w.heap.size + 1 + 1, 0, none⟩ = some (.int .i64 ((m : Nat) : Int)) ∧ w2.cell? ⟨w.heap.size + 1 + 1, 1, none⟩ = some (.slice x1 y1 z1) := ⟨((hc.drew.of_below hM.below).of_below hB2).cell rfl, ((hc.drew.of_below hM.below).of_below hB2).cell rfl, ((hd.drew.of_below hM.below).of_below hB2).cell rfl, ((hd.drew.of_below hM.below).of_below hB2).cell rfl⟩))
  all_goals
    go_wp2_with fail
    have hres := (hz2.set 0 (.int .i64 ((N : Nat) : Int))).set 1 (.slice x2 y2 z2)
    simp only [List.setIfInBounds_toArray, List.set_cons_zero, List.set_cons_succ] at hres
    exact bodyPost_ret (ret_ref3 rfl rfl rfl rfl hres) rfl (made_end hW hz hM.undrew hB2 hRM (twin_inter h1.twin h2.twin HN.out) hN)
set_option maxRecDepth 100000 in
set_option maxHeartbeats 4000000 in
theorem made_minus (s t to a b : Int) (v : Bool) (P R C : Value) (ba ca bb cb n m : Nat) (A B : List Nat) (x : Option Addr) (y z : Nat) (x1 : Option Addr) (y1 z1 : Nat) (rb rb1 : Nat → Nat) (F G : Nat → Nat → Bool) (w : World)
    (h1 : Two w ba ca n A x y z rb F) (h2 : Two w bb cb m B x1 y1 z1 rb1 G) (_hT : Tab w) :
    Calls Tryd.prog 30 #[.agg (stepA 7 s t to a b v P R C), pv ba, pv bb, .agg #[.int .i64 ((n : Nat) : Int), .slice x y z], .agg #[.int .i64 ((m : Nat) : Int), .slice x1 y1 z1]] w fun e w' => MadeOK w w' e := by
  unfold stepA
  go_enter Tryd.func30, Tryd.ntmps30
  go_wp2_with fail
  obtain ⟨hW, hst, hc, hd, hz⟩ := boxes5 w #[.int .i64 7, .int .i64 s, .int .i64 t, .int .i64 to, .int .i64 a, .int .i64 b, .bool v, P, R, C] #[.int .i64 ((n : Nat) : Int), .slice x y z] #[.int .i64 ((m : Nat) : Int), .slice x1 y1 z1] #[.int .i64 0, .slice none 0 0]
  generalize ((((w.alloc _).alloc _).alloc _).alloc _) = W at *
  have c0 := hc.cell (j := 0) rfl
  have c1 := hc.cell (j := 1) rfl
  have d0 := hd.cell (j := 0) rfl
  have d1 := hd.cell (j := 1) rfl
  obtain ⟨N, HN⟩ : ∃ N, Hid (N = max n m) := ⟨_, rfl⟩
  have hN : N ≤ 256 := by have := h1.le; have := h2.le; have := HN.out; omega
  go_region_held3 (fun w' => w'.cell? ⟨w.heap.size + 1, 0, none⟩ = some (.int .i64 ((n : Nat) : Int)) ∧ w'.cell? ⟨w.heap.size + 1, 1, none⟩ = some (.slice x y z) ∧ w'.cell? ⟨w.heap.size + 1 + 1, 0, none⟩ = some (.int .i64 ((m : Nat) : Int)) ∧ w'.cell? ⟨w.heap.size + 1 + 1, 1, none⟩ = some (.slice x1 y1 z1)) (first | assumption | exact ⟨(hc).cell rfl, (hc).cell rfl, (hd).cell rfl, (hd).cell rfl⟩ | exact ⟨(hc.drew.alloc _).cell rfl, (hc.drew.alloc _).cell rfl, (hd.drew.alloc _).cell rfl, (hd.drew.alloc _).cell rfl⟩ | (simp only [cell2 (hsne2 w.heap.size), cell2 (hsne3 w.heap.size)]; assumption)) (first | (go_at_call 23; refine (Minus_calls ba ca bb cb A B _ ((h1.rel.below hW).drew) ((h2.rel.below hW).drew)).mono ?_; rintro e w1 ⟨b', c', rfl, hM⟩; have K1 : w1.cell? ⟨w.heap.size + 1, 0, none⟩ = some (.int .i64 ((n : Nat) : Int)) ∧ w1.cell? ⟨w.heap.size + 1, 1, none⟩ = some (.slice x y z) ∧ w1.cell? ⟨w.heap.size + 1 + 1, 0, none⟩ = some (.int .i64 ((m : Nat) : Int)) ∧ w1.cell? ⟨w.heap.size + 1 + 1, 1, none⟩ = some (.slice x1 y1 z1) := ⟨(hc.drew.of_below hM.below).cell rfl, (hc.drew.of_below hM.below).cell rfl, (hd.drew.of_below hM.below).cell rfl, (hd.drew.of_below hM.below).cell rfl⟩) | (go_at_call 60; refine (refMinus_calls 0 0 n m N h1.le h2.le HN x y z rb F x1 y1 z1 rb1 G _ ((h1.ref.below hW).drew.below hM.below) ((h2.ref.below hW).drew.below hM.below)).mono ?_; rintro e w2 ⟨M, rb', rfl, hRM, hB2⟩; obtain ⟨x2, y2, z2, rfl⟩ := hRM.slice; have hz2 := (hz.drew.of_below hM.below).of_below hB2; have e0 := hz2.cell (j := 0) rfl; have e1 := hz2.cell (j := 1) rfl; have f0 := hz2.frozen 0; have f1 := hz2.frozen 1; have K2 : w2.cell? ⟨w.heap.size + 1, 0, none⟩ = some (.int .i64 ((n : Nat) : Int)) ∧ w2.cell? ⟨w.heap.size + 1, 1, none⟩ = some (.slice x y z) ∧ w2.cell? ⟨w.heap.size + 1 + 1, 0, none⟩ = some (.int .i64 ((m : Nat) : Int)) ∧ w2.cell? ⟨w.heap.size + 1 + 1, 1, none⟩ = some (.slice x1 y1 z1) := ⟨((hc.drew.of_below hM.below).of_below hB2).cell rfl, ((hc.drew.of_below hM.below).of_below hB2).cell rfl, ((hd.drew.of_below hM.below).of_below hB2).cell rfl, ((hd.drew.of_below hM.below).of_below hB2).cell rfl⟩))
  all_goals
    go_wp2_with fail
    have hres := (hz2.set 0 (.int .i64 ((N : Nat) : Int))).set 1 (.slice x2 y2 z2)
    simp only [List.setIfInBounds_toArray, List.set_cons_zero, List.set_cons_succ] at hres
    exact bodyPost_ret (ret_ref3 rfl rfl rfl rfl hres) rfl (made_end hW hz hM.undrew hB2 hRM (twin_minus h1.twin h2.twin HN.out) hN)
set_option maxRecDepth 100000 in
set_option maxHeartbeats 4000000 in
theorem made_comp (s t to a b : Int) (v : Bool) (P R C : Value) (ba ca bb cb n m : Nat) (A B : List Nat) (x : Option Addr) (y z : Nat) (x1 : Option Addr) (y1 z1 : Nat) (rb rb1 : Nat → Nat) (F G : Nat → Nat → Bool) (w : World)
    (h1 : Two w ba ca n A x y z rb F) (h2 : Two w bb cb m B x1 y1 z1 rb1 G) (hT : Tab w) :
    Calls Tryd.prog 30 #[.agg (stepA 8 s t to a b v P R C), pv ba, pv bb, .agg #[.int .i64 ((n : Nat) : Int), .slice x y z], .agg #[.int .i64 ((m : Nat) : Int), .slice x1 y1 z1]] w fun e w' => MadeOK w w' e := by
  unfold stepA
  go_enter Tryd.func30, Tryd.ntmps30
  go_wp2_with fail
  obtain ⟨hW, hst, hc, hd, hz⟩ := boxes5 w #[.int .i64 8, .int .i64 s, .int .i64 t, .int .i64 to, .int .i64 a, .int .i64 b, .bool v, P, R, C] #[.int .i64 ((n : Nat) : Int), .slice x y z] #[.int .i64 ((m : Nat) : Int), .slice x1 y1 z1] #[.int .i64 0, .slice none 0 0]
  generalize ((((w.alloc _).alloc _).alloc _).alloc _) = W at *
  have c0 := hc.cell (j := 0) rfl
  have c1 := hc.cell (j := 1) rfl
  have d0 := hd.cell (j := 0) rfl
  have d1 := hd.cell (j := 1) rfl
  obtain ⟨N, HN⟩ : ∃ N, Hid (N = max n m) := ⟨_, rfl⟩
  have hN : N ≤ 256 := by have := h1.le; have := h2.le; have := HN.out; omega
  go_region_held3 (fun w' => w'.cell? ⟨w.heap.size + 1, 0, none⟩ = some (.int .i64 ((n : Nat) : Int)) ∧ w'.cell? ⟨w.heap.size + 1, 1, none⟩ = some (.slice x y z) ∧ w'.cell? ⟨w.heap.size + 1 + 1, 0, none⟩ = some (.int .i64 ((m : Nat) : Int)) ∧ w'.cell? ⟨w.heap.size + 1 + 1, 1, none⟩ = some (.slice x1 y1 z1)) (first | assumption | exact ⟨(hc).cell rfl, (hc).cell rfl, (hd).cell rfl, (hd).cell rfl⟩ | exact ⟨(hc.drew.alloc _).cell rfl, (hc.drew.alloc _).cell rfl, (hd.drew.alloc _).cell rfl, (hd.drew.alloc _).cell rfl⟩ | (simp only [cell2 (hsne2 w.heap.size), cell2 (hsne3 w.heap.size)]; assumption)) (first | (go_at_call 15; refine (Comp_calls ba ca bb cb A B _ ((h1.rel.below hW).drew) ((h2.rel.below hW).drew) ((hT.step hW).drew)).mono ?_; rintro e w1 ⟨b', c', rfl, hM⟩; have K1 : w1.cell? ⟨w.heap.size + 1, 0, none⟩ = some (.int .i64 ((n : Nat) : Int)) ∧ w1.cell? ⟨w.heap.size + 1, 1, none⟩ = some (.slice x y z) ∧ w1.cell? ⟨w.heap.size + 1 + 1, 0, none⟩ = some (.int .i64 ((m : Nat) : Int)) ∧ w1.cell? ⟨w.heap.size + 1 + 1, 1, none⟩ = some (.slice x1 y1 z1) := ⟨(hc.drew.of_below hM.below).cell rfl, (hc.drew.of_below hM.below).cell rfl, (hd.drew.of_below hM.below).cell rfl, (hd.drew.of_below hM.below).cell rfl⟩) | (go_at_call 61; refine (refComp_calls 0 0 n m N h1.le h2.le HN x y z rb F x1 y1 z1 rb1 G _ ((h1.ref.below hW).drew.below hM.below) ((h2.ref.below hW).drew.below hM.below)).mono ?_; rintro e w2 ⟨M, rb', rfl, hRM, hB2⟩; obtain ⟨x2, y2, z2, rfl⟩ := hRM.slice; have hz2 := (hz.drew.of_below hM.below).of_below hB2; have e0 := hz2.cell (j := 0) rfl; have e1 := hz2.cell (j := 1) rfl; have f0 := hz2.frozen 0; have f1 := hz2.frozen 1; have K2 : w2.cell? ⟨w.heap.size + 1, 0, none⟩ = some (.int .i64 ((n : Nat) : Int)) ∧ w2.cell? ⟨w.heap.size + 1, 1, none⟩ = some (.slice x y z) ∧ w2.cell? ⟨w.heap.size + 1 + 1, 0, none⟩ = some (.int .i64 ((m : Nat) : Int)) ∧ w2.cell? ⟨w.heap.size + 1 + 1, 1, none⟩ = some (.slice x1 y1 z1) := ⟨((hc.drew.of_below hM.below).of_below hB2).cell rfl, ((hc.drew.of_below hM.below).of_below hB2).cell rfl, ((hd.drew.of_below hM.below).of_below hB2).cell rfl, ((hd.drew.of_below hM.below).of_below hB2).cell rfl⟩))
  all_goals
    go_wp2_with fail
    have hres := (hz2.set 0 (.int .i64 ((N : Nat) : Int))).set 1 (.slice x2 y2 z2)
    simp only [List.setIfInBounds_toArray, List.set_cons_zero, List.set_cons_succ] at hres
    exact bodyPost_ret (ret_ref3 rfl rfl rfl rfl hres) rfl (made_end hW hz hM.undrew hB2 hRM (twin_comp h1.le h1.twin h2.twin HN.out) hN)
set_option maxRecDepth 100000 in
set_option maxHeartbeats 4000000 in
theorem made_copy (s t to a b : Int) (v : Bool) (P R C : Value) (ba ca bb cb n m : Nat) (A B : List Nat) (x : Option Addr) (y z : Nat) (x1 : Option Addr) (y1 z1 : Nat) (rb rb1 : Nat → Nat) (F G : Nat → Nat → Bool) (w : World)
    (h1 : Two w ba ca n A x y z rb F) (_h2 : Two w bb cb m B x1 y1 z1 rb1 G) (_hT : Tab w) :
    Calls Tryd.prog 30 #[.agg (stepA 4 s t to a b v P R C), pv ba, pv bb, .agg #[.int .i64 ((n : Nat) : Int), .slice x y z], .agg #[.int .i64 ((m : Nat) : Int), .slice x1 y1 z1]] w fun e w' => MadeOK w w' e := by
  unfold stepA
  go_enter Tryd.func30, Tryd.ntmps30
  go_wp2_with fail
  obtain ⟨hW, hst, hc, hd, hz⟩ := boxes5 w #[.int .i64 4, .int .i64 s, .int .i64 t, .int .i64 to, .int .i64 a, .int .i64 b, .bool v, P, R, C] #[.int .i64 ((n : Nat) : Int), .slice x y z] #[.int .i64 ((m : Nat) : Int), .slice x1 y1 z1] #[.int .i64 0, .slice none 0 0]
  generalize ((((w.alloc _).alloc _).alloc _).alloc _) = W at *
  have c0 := hc.cell (j := 0) rfl
  have c1 := hc.cell (j := 1) rfl
  go_region_held3 (fun w' => w'.cell? ⟨w.heap.size + 1, 0, none⟩ = some (.int .i64 ((n : Nat) : Int)) ∧ w'.cell? ⟨w.heap.size + 1, 1, none⟩ = some (.slice x y z)) (first | assumption | exact ⟨(hc).cell rfl, (hc).cell rfl⟩ | exact ⟨(hc.drew.alloc _).cell rfl, (hc.drew.alloc _).cell rfl⟩ | (simp only [cell2 (hsne2 w.heap.size)]; assumption)) (first | (go_at_call 40; refine (Copy_calls ba ca A _ ((h1.rel.below hW).drew)).mono ?_; rintro e w1 ⟨b', c', rfl, hM⟩; have K1 : w1.cell? ⟨w.heap.size + 1, 0, none⟩ = some (.int .i64 ((n : Nat) : Int)) ∧ w1.cell? ⟨w.heap.size + 1, 1, none⟩ = some (.slice x y z) := ⟨(hc.drew.of_below hM.below).cell rfl, (hc.drew.of_below hM.below).cell rfl⟩; have hz2 := hz.drew.of_below hM.below; have e0 := hz2.cell (j := 0) rfl; have e1 := hz2.cell (j := 1) rfl; have f0 := hz2.frozen 0; have f1 := hz2.frozen 1))
  all_goals
    go_wp2_with fail
    have hres := (hz2.set 0 (.int .i64 ((n : Nat) : Int))).set 1 (.slice x y z)
    simp only [List.setIfInBounds_toArray, List.set_cons_zero, List.set_cons_succ] at hres
    exact bodyPost_ret (ret_ref3 rfl rfl rfl rfl hres) rfl (made_end hW hz hM.undrew (Below.refl _ _) ((h1.ref.below hW).drew.below hM.below) h1.twin h1.le)
set_option maxRecDepth 100000 in
set_option maxHeartbeats 4000000 in
theorem made_many (s t to a b : Int) (v : Bool) (P R C : Value) (ba ca bb cb n m : Nat) (A B : List Nat) (x : Option Addr) (y z : Nat) (x1 : Option Addr) (y1 z1 : Nat) (rb rb1 : Nat → Nat) (F G : Nat → Nat → Bool) (w : World)
    (h1 : Two w ba ca n A x y z rb F) (h2 : Two w bb cb m B x1 y1 z1 rb1 G) (_hT : Tab w) :
    Calls Tryd.prog 30 #[.agg (stepA 14 s t to a b v P R C), pv ba, pv bb, .agg #[.int .i64 ((n : Nat) : Int), .slice x y z], .agg #[.int .i64 ((m : Nat) : Int), .slice x1 y1 z1]] w fun e w' => MadeOK w w' e := by
  unfold stepA
  go_enter Tryd.func30, Tryd.ntmps30
  go_wp2_with fail
  obtain ⟨hW, hst, hc, hd, hz⟩ := boxes5 w #[.int .i64 14, .int .i64 s, .int .i64 t, .int .i64 to, .int .i64 a, .int .i64 b, .bool v, P, R, C] #[.int .i64 ((n : Nat) : Int), .slice x y z] #[.int .i64 ((m : Nat) : Int), .slice x1 y1 z1] #[.int .i64 0, .slice none 0 0]
  generalize ((((w.alloc _).alloc _).alloc _).alloc _) = W at *
  have c0 := hc.cell (j := 0) rfl
  have c1 := hc.cell (j := 1) rfl
  have d0 := hd.cell (j := 0) rfl
  have d1 := hd.cell (j := 1) rfl
  obtain ⟨N, HN⟩ : ∃ N, Hid (N = max n m) := ⟨_, rfl⟩
  have hN : N ≤ 256 := by have := h1.le; have := h2.le; have := HN.out; omega
  obtain ⟨N2, HN2⟩ : ∃ N2, Hid (N2 = max N 1) := ⟨_, rfl⟩
  have hN2 : N2 ≤ 256 := by have := HN2.out; omega
  have hcl : clampN 1 = 1 := by decide
  have hnew := hid_of (New_calls 1)
  have hrnew := hid_of (refNew_calls 1)
  rw [hcl] at hnew hrnew
  go_region_held3 (fun w' => w'.cell? ⟨w.heap.size + 1, 0, none⟩ = some (.int .i64 ((n : Nat) : Int)) ∧ w'.cell? ⟨w.heap.size + 1, 1, none⟩ = some (.slice x y z) ∧ w'.cell? ⟨w.heap.size + 1 + 1, 0, none⟩ = some (.int .i64 ((m : Nat) : Int)) ∧ w'.cell? ⟨w.heap.size + 1 + 1, 1, none⟩ = some (.slice x1 y1 z1)) (first | assumption | exact ⟨(hc).cell rfl, (hc).cell rfl, (hd).cell rfl, (hd).cell rfl⟩ | exact ⟨((hc.drew.of_below hB1).alloc _).cell rfl, ((hc.drew.of_below hB1).alloc _).cell rfl, ((hd.drew.of_below hB1).alloc _).cell rfl, ((hd.drew.of_below hB1).alloc _).cell rfl⟩ | (simp only [cell2 (hsne2 w.heap.size), cell2 (hsne3 w.heap.size)]; assumption)) (first | (go_at_call 13; refine (hnew.out _).mono ?_; rintro e w1 ⟨b3, c3, rfl, n1, _, _, hB1⟩; have K1 : w1.cell? ⟨w.heap.size + 1, 0, none⟩ = some (.int .i64 ((n : Nat) : Int)) ∧ w1.cell? ⟨w.heap.size + 1, 1, none⟩ = some (.slice x y z) ∧ w1.cell? ⟨w.heap.size + 1 + 1, 0, none⟩ = some (.int .i64 ((m : Nat) : Int)) ∧ w1.cell? ⟨w.heap.size + 1 + 1, 1, none⟩ = some (.slice x1 y1 z1) := ⟨(hc.drew.of_below hB1).cell rfl, (hc.drew.of_below hB1).cell rfl, (hd.drew.of_below hB1).cell rfl, (hd.drew.of_below hB1).cell rfl⟩) | (go_at_call 21; refine (Union_many w1 ba ca bb cb b3 c3 A B _ ((h1.rel.below hW).drew.below hB1) ((h2.rel.below hW).drew.below hB1) n1).mono ?_; rintro e w3 ⟨b', c', rfl, hM3⟩; have hM : Made W.drew w3 b' c' _ := Made.from_ hB1 hM3; have K3 : w3.cell? ⟨w.heap.size + 1, 0, none⟩ = some (.int .i64 ((n : Nat) : Int)) ∧ w3.cell? ⟨w.heap.size + 1, 1, none⟩ = some (.slice x y z) ∧ w3.cell? ⟨w.heap.size + 1 + 1, 0, none⟩ = some (.int .i64 ((m : Nat) : Int)) ∧ w3.cell? ⟨w.heap.size + 1 + 1, 1, none⟩ = some (.slice x1 y1 z1) := ⟨(hc.drew.of_below hM.below).cell rfl, (hc.drew.of_below hM.below).cell rfl, (hd.drew.of_below hM.below).cell rfl, (hd.drew.of_below hM.below).cell rfl⟩) | (go_at_call 28; refine (hrnew.out _).mono ?_; rintro e w5 ⟨M5, rb5, rfl, hR5, hB5⟩; obtain ⟨x5, y5, z5, rfl⟩ := hR5.slice; have K5 : w5.cell? ⟨w.heap.size + 1, 0, none⟩ = some (.int .i64 ((n : Nat) : Int)) ∧ w5.cell? ⟨w.heap.size + 1, 1, none⟩ = some (.slice x y z) ∧ w5.cell? ⟨w.heap.size + 1 + 1, 0, none⟩ = some (.int .i64 ((m : Nat) : Int)) ∧ w5.cell? ⟨w.heap.size + 1 + 1, 1, none⟩ = some (.slice x1 y1 z1) := ⟨(((hc.drew.of_below hM.below).of_below hB4).of_below hB5).cell rfl, (((hc.drew.of_below hM.below).of_below hB4).of_below hB5).cell rfl, (((hd.drew.of_below hM.below).of_below hB4).of_below hB5).cell rfl, (((hd.drew.of_below hM.below).of_below hB4).of_below hB5).cell rfl⟩) | (go_at_call 58; refine (refUnion_calls _ _ N 1 N2 hN (by omega) HN2 x4 y4 z4 rb4 _ x5 y5 z5 rb5 _ _ (hR4.below hB5) hR5).mono ?_; rintro e w2 ⟨M, rb', rfl, hRM, hB6⟩; have hB2 : Below w3.heap.size w3 w2 := below_step (below_step hB4 hB4.size hB5) (Nat.le_trans hB4.size hB5.size) hB6; obtain ⟨x2, y2, z2, rfl⟩ := hRM.slice; have hz2 := (hz.drew.of_below hM.below).of_below hB2; have e0 := hz2.cell (j := 0) rfl; have e1 := hz2.cell (j := 1) rfl; have f0 := hz2.frozen 0; have f1 := hz2.frozen 1; have K2 : w2.cell? ⟨w.heap.size + 1, 0, none⟩ = some (.int .i64 ((n : Nat) : Int)) ∧ w2.cell? ⟨w.heap.size + 1, 1, none⟩ = some (.slice x y z) ∧ w2.cell? ⟨w.heap.size + 1 + 1, 0, none⟩ = some (.int .i64 ((m : Nat) : Int)) ∧ w2.cell? ⟨w.heap.size + 1 + 1, 1, none⟩ = some (.slice x1 y1 z1) := ⟨((hc.drew.of_below hM.below).of_below hB2).cell rfl, ((hc.drew.of_below hM.below).of_below hB2).cell rfl, ((hd.drew.of_below hM.below).of_below hB2).cell rfl, ((hd.drew.of_below hM.below).of_below hB2).cell rfl⟩) | (go_at_call 58; refine (refUnion_calls 0 0 n m N h1.le h2.le HN x y z rb F x1 y1 z1 rb1 G _ ((h1.ref.below hW).drew.below hM.below) ((h2.ref.below hW).drew.below hM.below)).mono ?_; rintro e w4 ⟨M4, rb4, rfl, hR4, hB4⟩; obtain ⟨x4, y4, z4, rfl⟩ := hR4.slice; have K4 : w4.cell? ⟨w.heap.size + 1, 0, none⟩ = some (.int .i64 ((n : Nat) : Int)) ∧ w4.cell? ⟨w.heap.size + 1, 1, none⟩ = some (.slice x y z) ∧ w4.cell? ⟨w.heap.size + 1 + 1, 0, none⟩ = some (.int .i64 ((m : Nat) : Int)) ∧ w4.cell? ⟨w.heap.size + 1 + 1, 1, none⟩ = some (.slice x1 y1 z1) := ⟨((hc.drew.of_below hM.below).of_below hB4).cell rfl, ((hc.drew.of_below hM.below).of_below hB4).cell rfl, ((hd.drew.of_below hM.below).of_below hB4).cell rfl, ((hd.drew.of_below hM.below).of_below hB4).cell rfl⟩))
  all_goals
    go_wp2_with fail
    have hres := (hz2.set 0 (.int .i64 ((N2 : Nat) : Int))).set 1 (.slice x2 y2 z2)
    simp only [List.setIfInBounds_toArray, List.set_cons_zero, List.set_cons_succ] at hres
    exact bodyPost_ret (ret_ref3 rfl rfl rfl rfl hres) rfl (made_end hW hz hM.undrew hB2 hRM (twin_many h1.twin h2.twin (twin_zero 1) HN.out HN2.out) hN2)
set_option maxRecDepth 100000 in
set_option maxHeartbeats 4000000 in
theorem made_none (op : Int) (ho : op < 0 ∨ 14 < op ∨ op = 3) (s t to a b : Int) (v : Bool) (P R C : Value) (ba ca bb cb n m : Nat) (A B : List Nat) (x : Option Addr) (y z : Nat) (x1 : Option Addr) (y1 z1 : Nat) (rb rb1 : Nat → Nat) (F G : Nat → Nat → Bool) (w : World)
    (_h1 : Two w ba ca n A x y z rb F) (_h2 : Two w bb cb m B x1 y1 z1 rb1 G) (_hT : Tab w) :
    Calls Tryd.prog 30 #[.agg (stepA op s t to a b v P R C), pv ba, pv bb, .agg #[.int .i64 ((n : Nat) : Int), .slice x y z], .agg #[.int .i64 ((m : Nat) : Int), .slice x1 y1 z1]] w fun e w' => MadeNo w w' e := by
  have q0 : (op == (0 : Int)) = false := by rw [beq_eq_false_iff_ne]; omega
  have q1 : (op == (1 : Int)) = false := by rw [beq_eq_false_iff_ne]; omega
  have q2 : (op == (2 : Int)) = false := by rw [beq_eq_false_iff_ne]; omega
  have q4 : (op == (4 : Int)) = false := by rw [beq_eq_false_iff_ne]; omega
  have q5 : (op == (5 : Int)) = false := by rw [beq_eq_false_iff_ne]; omega
  have q6 : (op == (6 : Int)) = false := by rw [beq_eq_false_iff_ne]; omega
  have q7 : (op == (7 : Int)) = false := by rw [beq_eq_false_iff_ne]; omega
  have q8 : (op == (8 : Int)) = false := by rw [beq_eq_false_iff_ne]; omega
  have q9 : (op == (9 : Int)) = false := by rw [beq_eq_false_iff_ne]; omega
  have q10 : (op == (10 : Int)) = false := by rw [beq_eq_false_iff_ne]; omega
  have q11 : (op == (11 : Int)) = false := by rw [beq_eq_false_iff_ne]; omega
  have q12 : (op == (12 : Int)) = false := by rw [beq_eq_false_iff_ne]; omega
  have q13 : (op == (13 : Int)) = false := by rw [beq_eq_false_iff_ne]; omega
  have q14 : (op == (14 : Int)) = false := by rw [beq_eq_false_iff_ne]; omega
  clear ho
  have hcl : clampN 0 = 0 := by decide
  have hrnew := hid_of (refNew_calls 0)
  rw [hcl] at hrnew
  unfold stepA
  go_enter Tryd.func30, Tryd.ntmps30
  go_wp2_with fail
  obtain ⟨hW, hst, hc, hd, hz⟩ := boxes5 w #[.int .i64 op, .int .i64 s, .int .i64 t, .int .i64 to, .int .i64 a, .int .i64 b, .bool v, P, R, C] #[.int .i64 ((n : Nat) : Int), .slice x y z] #[.int .i64 ((m : Nat) : Int), .slice x1 y1 z1] #[.int .i64 0, .slice none 0 0]
  generalize ((((w.alloc _).alloc _).alloc _).alloc _) = W at *
  clear hst hc hd
  refine (hrnew.out _).mono ?_
  rintro e w2 ⟨M, rb', rfl, hRM, hB2⟩
  obtain ⟨x2, y2, z2, rfl⟩ := hRM.slice
  have hz2 := hz.of_below hB2
  have e0 := hz2.cell (j := 0) rfl
  have e1 := hz2.cell (j := 1) rfl
  have f0 := hz2.frozen 0
  have f1 := hz2.frozen 1
  go_wp2_with fail
  have hres := (hz2.set 0 (.int .i64 0)).set 1 (.slice x2 y2 z2)
  simp only [List.setIfInBounds_toArray, List.set_cons_zero, List.set_cons_succ] at hres
  have hbl := below_step hW hW.size hB2
  exact bodyPost_ret (ret_ref3 rfl rfl rfl rfl hres) rfl ⟨_, _, _, rfl, (hbl.setCell (by simp; omega) _).setCell (by simp; omega) _⟩
end Go.Proofs.YtogifpilfckenaaDoor
/- What lies in memory while a play goes on: four relations of the program's and the document's four. -/
namespace Go.Proofs.YtogifpilfckenaaDoor
open Go.RowKit Go.Shelf Sx

theorem i64_and3 (n : Int) : bits .and .i64 n 3 = n % 4 := by
  have h3 : (BitVec.ofInt 64 3).toNat = 2 ^ 2 - 1 := by decide
  have key : (BitVec.ofInt 64 n &&& BitVec.ofInt 64 3).toNat = (n % ((2 ^ 64 : Nat) : Int)).toNat % 2 ^ 2 := by
    rw [BitVec.toNat_and, BitVec.toNat_ofInt, h3, Nat.and_two_pow_sub_one_eq_mod]
  show IntKind.i64.wrap ((BitVec.ofInt 64 n &&& BitVec.ofInt 64 3).toNat : Nat) = n % 4
  rw [key, IntKind.wrap_i64]
  omega
theorem and3_nat (n : Int) : ∃ k : Nat, k < 4 ∧ bits .and .i64 n 3 = ((k : Nat) : Int) := ⟨(n % 4).toNat, by omega, by rw [i64_and3]; omega⟩

theorem Blk.ne {w : World} {b g : Nat} {t u : TypeId} {cs ds : Array Value} (h : Blk w b t cs) (hg : Blk w g u ds) (ht : t ≠ u) : b ≠ g := by
  intro e
  subst e
  have := h.symm.trans hg
  simp at this
  exact ht this.2
/-- A table of truths is as it was, if its blocks are. -/
theorem RefM.kept {lo : Nat} {w w' : World} {M : Value} {k n : Nat} {rb : Nat → Nat} {F : Nat → Nat → Bool} (h : RefM lo w M k n rb F)
    (hk : ∀ g t cs, Blk w g t cs → t = 4 ∨ t = 35 → w'.heap[g]? = w.heap[g]?) : RefM lo w' M k n rb F := by
  refine ⟨?_, fun p hp => ⟨(h.row p hp).1, (hk _ _ _ (h.row p hp).2 (.inl rfl)).trans (h.row p hp).2⟩, h.apart, h.inj⟩
  obtain ⟨h1, h2⟩ := h.own
  refine ⟨h1, ?_⟩
  rcases h2 with h2 | ⟨g', cap, cur, e1, e2, e3, e4⟩
  · exact .inl h2
  · exact .inr ⟨g', cap, cur, e1, e2, (hk g' _ cur e3 (.inr rfl)).trans e3, e4⟩
theorem Two.below {w w' : World} {b c n : Nat} {L : List Nat} {x : Option Addr} {y z : Nat} {rb : Nat → Nat} {F : Nat → Nat → Bool} (h : Two w b c n L x y z rb F) (hB : Below w.heap.size w w') : Two w' b c n L x y z rb F :=
  ⟨h.rel.below hB, h.ref.below hB, h.twin, h.le⟩
theorem Two.other {w : World} {b c n : Nat} {L : List Nat} {x : Option Addr} {y z : Nat} {rb : Nat → Nat} {F : Nat → Nat → Bool} (h : Two w b c n L x y z rb F) {g : Nat} {t : TypeId} {cs : Array Value} (hg : Blk w g t cs) (h1 : t ≠ 68) (h2 : t ≠ 71) (h3 : t ≠ 4) (h4 : t ≠ 35) (j : Nat) (v : Value) :
    Two (w.setCell ⟨g, j, none⟩ v) b c n L x y z rb F := by
  refine ⟨h.rel.other (h.rel.head.ne hg h1.symm) (h.rel.rows.ne hg h2.symm) v, h.ref.kept fun g' t' cs' hb ht => Below.heap_setCell _ _ _ _ (hb.ne hg ?_), h.twin, h.le⟩
  rcases ht with rfl | rfl
  · exact h3.symm
  · exact h4.symm
theorem RefM.otherB {lo : Nat} {w : World} {M : Value} {k n : Nat} {rb : Nat → Nat} {F : Nat → Nat → Bool} (h : RefM lo w M k n rb F) {g : Nat} {t : TypeId} {cs : Array Value} (hg : Blk w g t cs) (h3 : t ≠ 4) (h4 : t ≠ 35) (j : Nat) (v : Value) : RefM lo (w.setCell ⟨g, j, none⟩ v) M k n rb F :=
  h.kept fun g' t' cs' hb ht => Below.heap_setCell _ _ _ _ (hb.ne hg (by rcases ht with rfl | rfl; exact h3.symm; exact h4.symm))
theorem Touch.undrew {c : Nat} {w w' : World} (h : Touch c w.drew w') : Touch c w w' := ⟨h.os, h.tape, h.output, h.size, h.block⟩
theorem RefM.touch {lo : Nat} {w w' : World} {M : Value} {k n : Nat} {rb : Nat → Nat} {F : Nat → Nat → Bool} (h : RefM lo w M k n rb F) {c : Nat} {cs : Array Value} (hc : Blk w c 71 cs) (ht : Touch c w w') : RefM lo w' M k n rb F :=
  h.kept fun g t cs' hb e => ht.block g hb.lt (hb.ne hc (by rcases e with rfl | rfl <;> decide))
theorem Two.touch {w w' : World} {b c n : Nat} {L : List Nat} {x : Option Addr} {y z : Nat} {rb : Nat → Nat} {F : Nat → Nat → Bool} (h : Two w b c n L x y z rb F) {d : Nat} {cs : Array Value} (hd : Blk w d 71 cs) (ht : Touch d w w') (h1 : b ≠ d) (h2 : c ≠ d) : Two w' b c n L x y z rb F :=
  ⟨h.rel.touch ht h1 h2, h.ref.touch hd ht, h.twin, h.le⟩

structure Slot where
  b : Nat
  c : Nat
  n : Nat
  A : List Nat
  x : Option Addr
  y : Nat
  z : Nat
  rb : Nat → Nat
  F : Nat → Nat → Bool
def Slot.ok (w : World) (s : Slot) : Prop := Two w s.b s.c s.n s.A s.x s.y s.z s.rb s.F
def setAt {α : Type} (f : Nat → α) (i : Nat) (v : α) : Nat → α := fun j => if j = i then v else f j
theorem setAt_same {α : Type} (f : Nat → α) (i : Nat) (v : α) : setAt f i v i = v := if_pos rfl
theorem setAt_ne {α : Type} (f : Nat → α) {i j : Nat} (v : α) (h : j ≠ i) : setAt f i v j = f j := if_neg h
structure PlB (w wr : World) (M Dn Ds : Nat → Value) : Prop where
  below : Below w.heap.size w wr
  mine : Blk wr w.heap.size 43 #[M 0, M 1, M 2, M 3]
  docs : Blk wr (w.heap.size + 1) 47 #[Dn 0, Ds 0, Dn 1, Ds 1, Dn 2, Ds 2, Dn 3, Ds 3]
structure PlS (lo : Nat) (wr : World) (k : Nat) (σ : Nat → Slot) : Prop where
  ok : ∀ i, i < k → (σ i).ok wr
  lo : ∀ i, i < k → lo ≤ (σ i).c
  apart : ∀ i j, i < k → j < k → i ≠ j → (σ i).b ≠ (σ j).c ∧ (σ i).c ≠ (σ j).c
def PlL (k : Nat) (σ : Nat → Slot) (M Dn Ds : Nat → Value) : Prop := ∀ i, i < k → M i = pv (σ i).b ∧ Dn i = .int .i64 (((σ i).n : Nat) : Int) ∧ Ds i = .slice (σ i).x (σ i).y (σ i).z
section
variable {w wr wr' : World} {M Dn Ds : Nat → Value} {σ : Nat → Slot} {k lo : Nat}
theorem PlB.step (h : PlB w wr M Dn Ds) (hB : Below wr.heap.size wr wr') : PlB w wr' M Dn Ds := ⟨below_step h.below h.below.size hB, h.mine.of_below hB, h.docs.of_below hB⟩
theorem PlB.touch (h : PlB w wr M Dn Ds) {c : Nat} {cs : Array Value} (hc : Blk wr c 71 cs) (hlo : w.heap.size ≤ c) (ht : Touch c wr wr') : PlB w wr' M Dn Ds :=
  ⟨h.below.trans (ht.below hlo h.below.size), (ht.block _ h.mine.lt (h.mine.ne hc (by decide))).trans h.mine, (ht.block _ h.docs.lt (h.docs.ne hc (by decide))).trans h.docs⟩
theorem four {i : Nat} (h : i < 4) : i = 0 ∨ i = 1 ∨ i = 2 ∨ i = 3 := by omega
theorem PlB.setM (h : PlB w wr M Dn Ds) {i : Nat} (hi : i < 4) (v : Value) : PlB w (wr.setCell ⟨w.heap.size, i, none⟩ v) (setAt M i v) Dn Ds := by
  have h1 := h.mine.set i v
  refine ⟨h.below.setCell (by simp) _, ?_, h.docs.setOther (by simp) _⟩
  rcases four hi with rfl | rfl | rfl | rfl <;> simpa [setAt] using h1
theorem PlB.setD (h : PlB w wr M Dn Ds) {i : Nat} (hi : i < 4) (u v : Value) : PlB w ((wr.setCell ⟨w.heap.size + 1, i * 2, none⟩ u).setCell ⟨w.heap.size + 1, i * 2 + 1, none⟩ v) M (setAt Dn i u) (setAt Ds i v) := by
  have h1 := (h.docs.set (i * 2) u).set (i * 2 + 1) v
  refine ⟨(h.below.setCell (by simp) _).setCell (by simp) _, (h.mine.setOther (by simp) _).setOther (by simp) _, ?_⟩
  rcases four hi with rfl | rfl | rfl | rfl <;> simpa [setAt] using h1
theorem PlB.mcell (h : PlB w wr M Dn Ds) {i : Nat} (hi : i < 4) : wr.cell? ⟨w.heap.size, i, none⟩ = some (M i) ∧ wr.frozen? ⟨w.heap.size, i, none⟩ = false := by
  refine ⟨h.mine.cell ?_, h.mine.frozen i⟩
  rcases four hi with rfl | rfl | rfl | rfl <;> rfl
theorem PlB.dcell (h : PlB w wr M Dn Ds) {i : Nat} (hi : i < 4) : wr.cell? ⟨w.heap.size + 1, i * 2, none⟩ = some (Dn i) ∧ wr.cell? ⟨w.heap.size + 1, i * 2 + 1, none⟩ = some (Ds i) ∧ wr.frozen? ⟨w.heap.size + 1, i * 2, none⟩ = false ∧ wr.frozen? ⟨w.heap.size + 1, i * 2 + 1, none⟩ = false := by
  refine ⟨h.docs.cell ?_, h.docs.cell ?_, h.docs.frozen _, h.docs.frozen _⟩ <;> rcases four hi with rfl | rfl | rfl | rfl <;> rfl
theorem PlS.step (h : PlS lo wr k σ) (hB : Below wr.heap.size wr wr') : PlS lo wr' k σ := ⟨fun i hi => Two.below (h.ok i hi) hB, h.lo, h.apart⟩
theorem PlS.other (h : PlS lo wr k σ) {g : Nat} {t : TypeId} {cs : Array Value} (hg : Blk wr g t cs) (h1 : t ≠ 68) (h2 : t ≠ 71) (h3 : t ≠ 4) (h4 : t ≠ 35) (j : Nat) (v : Value) : PlS lo (wr.setCell ⟨g, j, none⟩ v) k σ :=
  ⟨fun i hi => Two.other (h.ok i hi) hg h1 h2 h3 h4 j v, h.lo, h.apart⟩
/-- One more relation, of new memory. -/
theorem PlS.add (h : PlS lo wr k σ) (h' : PlS lo wr' k σ) (s : Slot) (hs : s.ok wr') (hb : wr.heap.size ≤ s.b) (hc : wr.heap.size ≤ s.c) (hl : lo ≤ wr.heap.size) (i k' : Nat) (hk : ∀ j, j < k' → j = i ∨ j < k) : PlS lo wr' k' (setAt σ i s) := by
  have old : ∀ j, j < k' → j ≠ i → setAt σ i s j = σ j ∧ j < k := fun j hj hne => ⟨setAt_ne _ _ hne, by rcases hk j hj with e | e; exact absurd e hne; exact e⟩
  have lt : ∀ j, j < k → (σ j).b < wr.heap.size ∧ (σ j).c < wr.heap.size := fun j hj => ⟨(h.ok j hj).rel.head.lt, (h.ok j hj).rel.rows.lt⟩
  refine ⟨fun j hj => ?_, fun j hj => ?_, fun j j' hj hj' hne => ?_⟩
  · by_cases e : j = i
    · subst e; rw [setAt_same]; exact hs
    · rw [(old j hj e).1]; exact h'.ok j (old j hj e).2
  · by_cases e : j = i
    · subst e; rw [setAt_same]; omega
    · rw [(old j hj e).1]; exact h.lo j (old j hj e).2
  · by_cases e : j = i
    · subst e
      rw [setAt_same, (old j' hj' (Ne.symm hne)).1]
      have := lt j' (old j' hj' (Ne.symm hne)).2
      omega
    · rw [(old j hj e).1]
      by_cases e' : j' = i
      · subst e'
        rw [setAt_same]
        have := lt j (old j hj e).2
        omega
      · rw [(old j' hj' e').1]
        exact h.apart j j' (old j hj e).2 (old j' hj' e').2 hne
/-- A pair was put into relation i. -/
theorem PlS.put (h : PlS lo wr k σ) {i : Nat} (hi : i < k) (s : Slot) (hs : s.ok wr') (hb : s.b = (σ i).b) (hc : s.c = (σ i).c) (ht : Touch (σ i).c wr wr') : PlS lo wr' k (setAt σ i s) := by
  have hr := (h.ok i hi).rel.rows
  refine ⟨fun j hj => ?_, fun j hj => ?_, fun j j' hj hj' hne => ?_⟩
  · by_cases e : j = i
    · subst e; rw [setAt_same]; exact hs
    · rw [setAt_ne _ _ e]; exact Two.touch (h.ok j hj) hr ht (h.apart j i hj hi e).1 (h.apart j i hj hi e).2
  · by_cases e : j = i
    · subst e; rw [setAt_same, hc]; exact h.lo j hj
    · rw [setAt_ne _ _ e]; exact h.lo j hj
  · by_cases e : j = i
    · subst e
      rw [setAt_same, setAt_ne _ _ (Ne.symm hne), hb, hc]
      exact h.apart j j' hj hj' hne
    · rw [setAt_ne _ _ e]
      by_cases e' : j' = i
      · subst e'; rw [setAt_same, hc]; exact h.apart j j' hj hj' hne
      · rw [setAt_ne _ _ e']; exact h.apart j j' hj hj' hne
theorem PlL.set (h : PlL k σ M Dn Ds) (s : Slot) (i k' : Nat) (hk : ∀ j, j < k' → j = i ∨ j < k) : PlL k' (setAt σ i s) (setAt M i (pv s.b)) (setAt Dn i (.int .i64 ((s.n : Nat) : Int))) (setAt Ds i (.slice s.x s.y s.z)) := by
  intro j hj
  by_cases e : j = i
  · subst e; simp only [setAt_same]; exact ⟨trivial, trivial, trivial⟩
  · simp only [setAt_ne _ _ e]
    exact h j (by rcases hk j hj with e' | e'; exact absurd e' e; exact e')
end
end Go.Proofs.YtogifpilfckenaaDoor
