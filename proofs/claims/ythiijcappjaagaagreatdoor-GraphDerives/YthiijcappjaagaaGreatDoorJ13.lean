/- How a relation of the document's own answer (a table of truths) lies in memory. -/
import Derived.Test.YthiijcappjaagaaGreatDoorJ10
import Derived.Test.YthiijcappjaagaaGreatDoorRoundAny
import Derived.Maps.AppendAt
import Derived.Test.YthiijcappjaagaaGreatDoorJ09
namespace Go.Proofs.YthiijcappjaagaaGreatDoor
open Go.RowKit Go.Shelf Sx
def rowL (n : Nat) (f : Nat → Bool) : List Bool := (List.range n).map f
abbrev hdr (n r : Nat) : Value := .slice (some ⟨r, 0, none⟩) n n
def upd (F : Nat → Nat → Bool) (p q : Nat) (b : Bool) : Nat → Nat → Bool := fun x y => if x = p ∧ y = q then b else F x y
theorem rowL_at {n q : Nat} {f : Nat → Bool} (h : q < n) : (arrB (rowL n f))[q]? = some (.bool (f q)) := by
  simp [arrB, rowL, h]
theorem rowL_congr {n : Nat} {f g : Nat → Bool} (h : ∀ q, q < n → f q = g q) : rowL n f = rowL n g := by
  unfold rowL
  exact List.map_congr_left fun q hq => h q (List.mem_range.1 hq)
theorem rowL_set {n q : Nat} {f : Nat → Bool} (b : Bool) (h : q < n) : (arrB (rowL n f)).setIfInBounds q (.bool b) = arrB (rowL n (fun y => if y = q then b else f y)) := by
  rw [arrB_set]
  congr 1
  apply List.ext_getElem?
  intro i
  rw [List.getElem?_set]
  by_cases e : q = i
  · subst e; simp [rowL, h]
  · rw [if_neg e]
    by_cases hi : i < n
    · simp [rowL, hi]
      intro h2
      exact absurd h2.symm e
    · rw [List.getElem?_eq_none (by simp [rowL]; omega), List.getElem?_eq_none (by simp [rowL]; omega)]
theorem rowL_false (n : Nat) : rowL n (fun _ => false) = List.replicate n false := by
  unfold rowL
  apply List.ext_getElem?
  intro i
  by_cases hi : i < n
  · simp [hi]
  · rw [List.getElem?_eq_none (by simp; omega), List.getElem?_eq_none (by simp; omega)]
structure RefM (lo : Nat) (w : World) (M : Value) (k n : Nat) (rb : Nat → Nat) (F : Nat → Nat → Bool) : Prop where
  own : w.ownsRow lo 34 1 M k ((List.range k).map (fun p => hdr n (rb p)))
  row : ∀ p, p < k → lo ≤ rb p ∧ Blk w (rb p) 4 (arrB (rowL n (F p)))
  apart : ∀ p, p < k → M.ownBlock ≠ some (rb p)
  inj : ∀ p q, p < k → q < k → rb p = rb q → p = q
theorem RefM.below {lo : Nat} {w w' : World} {M : Value} {k n : Nat} {rb : Nat → Nat} {F : Nat → Nat → Bool} (h : RefM lo w M k n rb F) (hB : Below w.heap.size w w') : RefM lo w' M k n rb F := by
  refine ⟨?_, fun p hp => ⟨(h.row p hp).1, (h.row p hp).2.of_below hB⟩, h.apart, h.inj⟩
  obtain ⟨h1, h2⟩ := h.own
  refine ⟨h1, ?_⟩
  rcases h2 with h2 | ⟨g, cap, cur, e1, e2, e3, e4⟩
  · exact .inl h2
  · exact .inr ⟨g, cap, cur, e1, e2, (hB.block g (Array.getElem?_eq_some_iff.1 e3).1).trans e3, e4⟩
theorem RefM.below' {lo : Nat} {w w' : World} {M : Value} {k n : Nat} {rb : Nat → Nat} {F : Nat → Nat → Bool} (h : RefM lo w M k n rb F) (hk : ∀ x, lo ≤ x → x < w.heap.size → w'.heap[x]? = w.heap[x]?) : RefM lo w' M k n rb F := by
  refine ⟨?_, fun p hp => ⟨(h.row p hp).1, (hk _ (h.row p hp).1 (h.row p hp).2.lt).trans (h.row p hp).2⟩, h.apart, h.inj⟩
  obtain ⟨h1, h2⟩ := h.own
  refine ⟨h1, ?_⟩
  rcases h2 with h2 | ⟨g, cap, cur, e1, e2, e3, e4⟩
  · exact .inl h2
  · exact .inr ⟨g, cap, cur, e1, e2, (hk g e2 (Array.getElem?_eq_some_iff.1 e3).1).trans e3, e4⟩
theorem RefM.mono {lo lo' : Nat} {w : World} {M : Value} {k n : Nat} {rb : Nat → Nat} {F : Nat → Nat → Bool} (h : RefM lo w M k n rb F) (hl : lo' ≤ lo) : RefM lo' w M k n rb F := by
  refine ⟨?_, fun p hp => ⟨Nat.le_trans hl (h.row p hp).1, (h.row p hp).2⟩, h.apart, h.inj⟩
  obtain ⟨h1, h2⟩ := h.own
  refine ⟨h1, ?_⟩
  rcases h2 with h2 | ⟨g, cap, cur, e1, e2, e3⟩
  · exact .inl h2
  · exact .inr ⟨g, cap, cur, e1, Nat.le_trans hl e2, e3⟩
theorem RefM.alloc {lo : Nat} {w : World} {M : Value} {k n : Nat} {rb : Nat → Nat} {F : Nat → Nat → Bool} (h : RefM lo w M k n rb F) (o : Obj) : RefM lo (w.alloc o) M k n rb F := h.below ((Below.refl _ _).alloc (Nat.le_refl _) _)
theorem RefM.drew {lo : Nat} {w : World} {M : Value} {k n : Nat} {rb : Nat → Nat} {F : Nat → Nat → Bool} (h : RefM lo w M k n rb F) : RefM lo w.drew M k n rb F := h.below (Below.refl _ _).drew
theorem RefM.drewN {lo : Nat} {w : World} {M : Value} {k n : Nat} {rb : Nat → Nat} {F : Nat → Nat → Bool} (h : RefM lo w M k n rb F) (m : Nat) : RefM lo (w.drewN m) M k n rb F := h.below (below_drewN (Below.refl _ _) m)
theorem RefM.at_ {lo : Nat} {w : World} {M : Value} {k n : Nat} {rb : Nat → Nat} {F : Nat → Nat → Bool} (h : RefM lo w M k n rb F) {p q : Nat} (hp : p < k) (hq : q < n) :
    ∃ g cap, M = .slice (some ⟨g, 0, none⟩) k cap ∧ g < w.heap.size ∧ lo ≤ g ∧ rb p ≠ g ∧ w.cell? ⟨g, p, none⟩ = some (hdr n (rb p)) ∧ w.cell? ⟨rb p, q, none⟩ = some (.bool (F p q)) ∧ w.frozen? ⟨rb p, q, none⟩ = false ∧ rb p < w.heap.size := by
  have h2 := h.apart p hp
  have h3 := (h.row p hp).2
  rcases h.own.2 with ⟨_, e⟩ | ⟨g, cap, cur, rfl, e2, e3, _, _, _, e4⟩
  · omega
  · refine ⟨g, cap, rfl, (Array.getElem?_eq_some_iff.1 e3).1, e2, fun e => h2 (by rw [e]; rfl), ?_, h3.cell (rowL_at hq), h3.frozen q, h3.lt⟩
    have hb : Blk w g 34 cur := e3
    apply hb.cell
    rw [← Array.getElem?_toList]
    have : (cur.toList.take (k * 1))[p]? = some (hdr n (rb p)) := by rw [e4]; simp [hp]
    rw [List.getElem?_take] at this
    split at this
    · exact this
    · cases this
theorem RefM.put {lo : Nat} {w : World} {M : Value} {k n : Nat} {rb : Nat → Nat} {F : Nat → Nat → Bool} (h : RefM lo w M k n rb F) {p q : Nat} (hp : p < k) (hq : q < n) (b : Bool) :
    RefM lo (w.setCell ⟨rb p, q, none⟩ (.bool b)) M k n rb (upd F p q b) := by
  refine ⟨?_, fun x hx => ⟨(h.row x hx).1, ?_⟩, h.apart, h.inj⟩
  · obtain ⟨h1, h2⟩ := h.own
    refine ⟨h1, ?_⟩
    rcases h2 with h2 | ⟨g, cap, cur, e1, e2, e3, e4⟩
    · exact .inl h2
    · have hg : g ≠ rb p := fun e => h.apart p hp (by rw [e1, ← e]; rfl)
      exact .inr ⟨g, cap, cur, e1, e2, (Below.heap_setCell w ⟨rb p, q, none⟩ (.bool b) g hg).trans e3, e4⟩
  · by_cases e : x = p
    · subst e
      have := (h.row x hx).2.set q (.bool b)
      rw [rowL_set b hq] at this
      have e2 : (fun y => if y = q then b else F x y) = upd F x q b x := by
        funext y
        unfold upd
        simp
      rwa [e2] at this
    · have e2 : upd F p q b x = F x := by
        funext y
        unfold upd
        simp [e]
      rw [e2]
      exact (h.row x hx).2.setOther (fun h2 => e (h.inj x p hx hp h2)) _
theorem RefM.slice {lo : Nat} {w : World} {M : Value} {k n : Nat} {rb : Nat → Nat} {F : Nat → Nat → Bool} (h : RefM lo w M k n rb F) : ∃ x y z, M = .slice x y z := by
  rcases h.own.2 with ⟨e, _⟩ | ⟨g, cap, cur, e, _⟩
  · exact ⟨_, _, _, e⟩
  · exact ⟨_, _, _, e⟩
theorem RefM.congr {lo : Nat} {w : World} {M : Value} {k n : Nat} {rb : Nat → Nat} {F G : Nat → Nat → Bool} (h : RefM lo w M k n rb F) (hfg : ∀ p q, p < k → q < n → F p q = G p q) : RefM lo w M k n rb G :=
  ⟨h.own, fun p hp => ⟨(h.row p hp).1, by rw [← rowL_congr (fun q hq => hfg p q hp hq)]; exact (h.row p hp).2⟩, h.apart, h.inj⟩
theorem RefM.nil (lo : Nat) (w : World) (n : Nat) (rb : Nat → Nat) (F : Nat → Nat → Bool) : RefM lo w (.slice none 0 0) 0 n rb F :=
  ⟨World.ownsRow_nil _ _ _ _, fun p hp => by omega, fun p hp => by omega, fun p q hp => by omega⟩
theorem RefM.more {lo : Nat} {w w' : World} {M M' : Value} {k n r : Nat} {rb : Nat → Nat} {F : Nat → Nat → Bool} (h : RefM lo w M k n rb F) (hr : Blk w r 4 (arrB (rowL n (F k)))) (hlo : lo ≤ r) (hnew : ∀ p, p < k → rb p ≠ r) (hM : M.ownBlock ≠ some r)
    (hown : w'.ownsRow lo 34 1 M' (k + 1) ((List.range k).map (fun p => hdr n (rb p)) ++ [hdr n r])) (hg : w.grownBy w' M.ownBlock) (hat : M'.ownBlock = M.ownBlock ∨ ∃ g, M'.ownBlock = some g ∧ w.heap.size ≤ g) :
    RefM lo w' M' (k + 1) n (fun p => if p = k then r else rb p) F := by
  have hkeep : ∀ (x : Nat) (cs : Array Value), Blk w x 4 cs → M.ownBlock ≠ some x → Blk w' x 4 cs := fun x cs hb hx => (hg.block x hb.lt (fun e => hx e.symm)).trans hb
  refine ⟨?_, ?_, ?_, ?_⟩
  · have e : (List.range (k + 1)).map (fun p => hdr n (if p = k then r else rb p)) = (List.range k).map (fun p => hdr n (rb p)) ++ [hdr n r] := by
      rw [List.range_succ, List.map_append]
      congr 1
      · apply List.map_congr_left
        intro p hp
        have := List.mem_range.1 hp
        rw [if_neg (by omega)]
      · simp
    rw [e]
    exact hown
  · intro p hp
    by_cases e : p = k
    · subst e
      rw [if_pos rfl]
      exact ⟨hlo, hkeep r _ hr hM⟩
    · rw [if_neg e]
      exact ⟨(h.row p (by omega)).1, hkeep _ _ (h.row p (by omega)).2 (h.apart p (by omega))⟩
  · intro p hp
    have hb : M.ownBlock ≠ some (if p = k then r else rb p) ∧ (if p = k then r else rb p) < w.heap.size := by
      by_cases e : p = k
      · rw [if_pos e]; exact ⟨hM, hr.lt⟩
      · rw [if_neg e]; exact ⟨h.apart p (by omega), (h.row p (by omega)).2.lt⟩
    rcases hat with hat | ⟨g, e1, e2⟩
    · rw [hat]; exact hb.1
    · rw [e1]
      intro e
      have := Option.some.inj e
      omega
  · intro p q hp hq he
    by_cases e1 : p = k <;> by_cases e2 : q = k
    · omega
    · rw [if_pos e1, if_neg e2] at he
      exact absurd he.symm (hnew q (by omega))
    · rw [if_neg e1, if_pos e2] at he
      exact absurd he (hnew p (by omega))
    · rw [if_neg e1, if_neg e2] at he
      exact h.inj p q (by omega) (by omega) he
theorem any_skip {P : Program} {ops : Array Oper} {md : Region.Mode} {Q : Exit → Act → World → Prop} {i : Nat} {o : Oper} {d : Option Tmp} {fuel : Nat} {listed : Array Bool} {a : Act} {w w' : World} {rs : List Nat} (ho : ops[i]? = some o) (hd : o.dst = d)
    (hw : Region.wanted o (yielded ops a.tmps) = true) (hrun : (execOp a.eval o).run P w = .ok .skip w')
    (h : wpAnyH P md ops Q (fun _ => True) fuel (listed.setIfInBounds i true) (a.put d undef) w') (hs : AllReadyH P md ops Q (fun _ => True) fuel listed a w rs) :
    AllReadyH P md ops Q (fun _ => True) fuel listed a w (i :: rs) := by
  subst hd
  refine AllReadyH.cons ho (fun K hK => ?_) hs
  rw [if_pos hw]
  unfold Oper.wp
  rw [hrun]
  exact hK.out _ _ trivial (fun _ => h)
theorem ret_ref {fn : Func} {p : Tmp} {tmps : Array Value} {w : World} {g : Nat} {N M : Value} (h : fn.results = #[.cell p 87]) (hp : tmps.getD p undef = .pointer (some ⟨g, 0, none⟩)) (hb : Blk w g 87 #[N, M]) :
    (results fn tmps).run Tryz.prog w = .ok (.agg #[N, M]) w :=
  results_cell_row h tmps w g _ _ (0, 0) _ hp hb Tryz.underlying87 rfl (by kernel_rfl)
end Go.Proofs.YthiijcappjaagaaGreatDoor
namespace Go.Proofs.YthiijcappjaagaaGreatDoor
open Go.RowKit Go.Shelf Sx
theorem ev_cf {a : Act} {ρ : Operand → Value} (h : Act.eval a = ρ) : (∀ v, ρ (.const v) = v) ∧ ∀ f, ρ (.func f) = .func (.func f) #[] #[] := ⟨fun _ => by rw [← h]; rfl, fun _ => by rw [← h]; rfl⟩
theorem Tryz.infobools : (Tryz.prog.info? 34).map (fun i => (i.zero, i.size, i.bytes)) = some (some (.slice none 0 0), 1, 24) := by kernel_rfl
structure RefMid (w W : World) (M : Value) (k n : Nat) (rb : Nat → Nat) : Prop where
  below : Below w.heap.size w W
  res : Blk W w.heap.size 87 #[.int .i64 0, .slice none 0 0]
  box : Blk W (w.heap.size + 1) 87 #[.int .i64 ((n : Nat) : Int), M]
  ref : RefM (w.heap.size + 2) W M k n rb (fun _ _ => false)
theorem RefMid.kept {w W W' : World} {M : Value} {k n : Nat} {rb : Nat → Nat} (h : RefMid w W M k n rb)
    (hg : ((W.drew.alloc (.cells (arrB (List.replicate n false)) 4)).alloc (.cells #[hdr n W.heap.size] 34)).grownBy W' M.ownBlock) : Blk W' (w.heap.size + 1) 87 #[.int .i64 ((n : Nat) : Int), M] :=
  (hg.block _ (by have := h.box.lt; simp; omega) (fun e => by have := (h.ref.own.lt _ e.symm).1; omega)).trans ((h.box.drew.alloc _).alloc _)
theorem RefMid.next {w W W' : World} {M M' : Value} {k n : Nat} {rb : Nat → Nat} (h : RefMid w W M k n rb)
    (hown : W'.ownsRow (w.heap.size + 2) 34 1 M' (k + 1) ((List.range k).map (fun p => hdr n (rb p)) ++ [hdr n W.heap.size]))
    (hg : ((W.drew.alloc (.cells (arrB (List.replicate n false)) 4)).alloc (.cells #[hdr n W.heap.size] 34)).grownBy W' M.ownBlock)
    (hat : M'.ownBlock = M.ownBlock ∨ M'.ownBlock = some ((W.drew.alloc (.cells (arrB (List.replicate n false)) 4)).alloc (.cells #[hdr n W.heap.size] 34)).heap.size) :
    RefMid w (W'.setCell ⟨w.heap.size + 1, 1, none⟩ M') M' (k + 1) n (fun p => if p = k then W.heap.size else rb p) := by
  have hx := h.box.lt
  have hge : ∀ g, M.ownBlock = some g → w.heap.size + 2 ≤ g := fun g e => (h.ref.own.lt g e).1
  have hlt : ∀ g, M.ownBlock = some g → g < W.heap.size := fun g e => (h.ref.own.lt g e).2
  have hB : Below w.heap.size w W' := ((h.below.drew.alloc (by have := h.below.size; simpa using this) _).alloc (by simp; omega) _).grown hg (by simp; omega) (fun g e => by have := hge g e; omega)
  have keep : ∀ (x : Nat) (t : TypeId) (cs : Array Value), Blk W x t cs → x < w.heap.size + 2 → Blk W' x t cs := fun x t cs hb hx2 =>
    (hg.block x (by have := hb.lt; simp; omega) (fun e => by have := hge x e.symm; omega)).trans ((hb.drew.alloc _).alloc _)
  have hR : RefM (w.heap.size + 2) W' M' (k + 1) n (fun p => if p = k then W.heap.size else rb p) (fun _ _ => false) := by
    refine ((h.ref.drew.alloc _).alloc _).more ?_ (by omega) ?_ ?_ hown hg ?_
    · rw [rowL_false]
      exact (Blk.new W.drew _ _).alloc _
    · intro p hp e
      have := (h.ref.row p hp).2.lt
      omega
    · intro e
      have := hlt _ e
      omega
    · rcases hat with hat | hat
      · exact .inl hat
      · exact .inr ⟨_, hat, Nat.le_refl _⟩
  refine ⟨hB.setCell (by simp) _, (keep _ _ _ h.res (by omega)).setOther (by simp) _, ?_, ?_⟩
  · have := (keep _ _ _ h.box (by omega)).set 1 M'
    simpa using this
  · exact hR.below' fun x hx _ => Below.heap_setCell W' ⟨w.heap.size + 1, 1, none⟩ M' x (by simp; omega)
set_option maxRecDepth 100000 in
set_option maxHeartbeats 4000000 in
theorem refNew_mid (N : Nat) (hN : N ≤ 256) (w : World) :
    Calls Tryz.prog 98 #[.int .i64 ((N : Nat) : Int)] w fun e w' => ∃ M rb, e = .returned (.agg #[.int .i64 ((N : Nat) : Int), M]) ∧ RefM w.heap.size w' M N N rb (fun _ _ => false) ∧ Below w.heap.size w w' := by
  obtain ⟨i0, hi, hz0, hz1, hz2⟩ := info_parts Tryz.infobools
  go_enter Tryz.func98, Tryz.ntmps98
  go_wp2_with fail
  go_loopw [4] (fun i wr => ∃ k M rb, k ≤ N ∧ i = .int .i64 ((k : Nat) : Int) ∧ RefMid w wr M k N rb) (fun i _ => N - (intOf i).toNat)
  case atStart =>
    refine ⟨0, .slice none 0 0, fun _ => 0, by omega, rfl, ?_, ?_, ?_, RefM.nil _ _ _ _ _⟩
    · exact ((Below.refl _ w).alloc (Nat.le_refl _) _).alloc (by simp) _
    · exact (Blk.new w _ _).alloc _
    · skip
      exact Blk.new2 w _ _ _
  case round =>
    obtain ⟨k, M, rb, hk, rfl, hR⟩ := hrel
    by_cases hlt : k < N
    · have cM := hR.box.cell (j := 1) rfl
      have cM1 := (hR.box.alloc (.cells (arrB (List.replicate N false)) 4)).cell (j := 1) rfl
      have cM3 := ((hR.box.alloc (.cells (arrB (List.replicate N false)) 4)).alloc (.cells #[hdr N wr.heap.size] 34)).cell (j := 1) rfl
      have hmk := make_bools N (by omega)
      go_wp2_with fail
      generalize hA : Act.mk _ _ = a0
      have hsz : a0.tmps.size = 24 := by rw [← hA]; rfl
      have b0 : Act.eval a0 (.tmp 0) = .int .i64 ((N : Nat) : Int) := by rw [← hA]; rfl
      have b3 : Act.eval a0 (.tmp 3) = pv (w.heap.size + 1) := by rw [← hA]; rfl
      refine wp_region_held_drew (S := fun _ => True) (by kernel_rfl) trivial (fun _ => ?_)
      refine any_take (i := 0) (d := some 16) (v := .pointer (some ⟨w.heap.size + 1, 1, none⟩)) rfl rfl (by kernel_rfl) (by kernel_rfl) (by kernel_rfl) (fun _ _ _ h => h) (by rfl) ?_ ?_
      · intro w9
        have e3 := b3
        have ec : ∀ v, Act.eval a0 (.const v) = v := fun _ => rfl
        have ef : ∀ f, Act.eval a0 (.func f) = .func (.func f) #[] #[] := fun _ => rfl
        generalize Act.eval a0 = ρ at *
        simp only [List.getElem_toArray, List.getElem_cons_zero]
        go_simp
      refine any_take (i := 2) (d := some 18) (v := .int .i64 ((N : Nat) : Int)) rfl rfl (by kernel_rfl) (by kernel_rfl) (by kernel_rfl) (fun _ _ _ h => h) (by rfl) ?_ ?_
      · intro w9
        generalize hρ : Act.eval _ = ρ
        have e0 : ρ (.tmp 0) = .int .i64 ((N : Nat) : Int) := by rw [← hρ, Act.eval_put_ne _ _ _ _ (by decide), b0]
        obtain ⟨ec, ef⟩ := ev_cf hρ
        clear hρ
        simp only [List.getElem_toArray, List.getElem_cons_zero, List.getElem_cons_succ]
        go_simp
      refine wpAnyH_ready (rs := [1, 3]) (by kernel_rfl) (by simp) ?_
      refine any_value (i := 1) (d := some 17) (v := M) (w' := wr.drew) rfl rfl (by rfl) ?_ ?_ ?_
      · skip
        generalize hρ : Act.eval _ = ρ
        have e16 : ρ (.tmp 16) = .pointer (some ⟨w.heap.size + 1, 1, none⟩) := by rw [← hρ, Act.eval_put_ne _ _ _ _ (by decide), Act.eval_put_same _ _ _ (by (repeat rw [Act.size_put]); omega)]
        obtain ⟨ec, ef⟩ := ev_cf hρ
        clear hρ
        simp only [List.getElem_toArray, List.getElem_cons_zero, List.getElem_cons_succ]
        go_simp
      · skip
        refine wpAnyH_ready (rs := [3]) (by kernel_rfl) (by simp) ?_
        refine any_value (i := 3) (d := some 19) (v := hdr N wr.heap.size) (w' := (wr.drew.alloc (.cells (arrB (List.replicate N false)) 4))) rfl rfl (by rfl) ?_ ?_ AllReadyH.nil
        · skip
          generalize hρ : Act.eval _ = ρ
          have e18 : ρ (.tmp 18) = .int .i64 ((N : Nat) : Int) := by rw [← hρ, Act.eval_put_ne _ _ _ _ (by decide), Act.eval_put_same _ _ _ (by (repeat rw [Act.size_put]); omega)]
          obtain ⟨ec, ef⟩ := ev_cf hρ
          clear hρ
          simp only [List.getElem_toArray, List.getElem_cons_zero, List.getElem_cons_succ]
          go_simp
        refine wpAnyH_ready (rs := [4]) (by kernel_rfl) (by simp) ?_
        refine any_value (i := 4) (d := some 20) (v := .slice (some ⟨wr.heap.size + 1, 0, none⟩) 1 1) (w' := ((wr.drew.alloc (.cells (arrB (List.replicate N false)) 4)).alloc (.cells #[hdr N wr.heap.size] 34))) rfl rfl (by rfl) ?_ ?_ AllReadyH.nil
        · skip
          generalize hρ : Act.eval _ = ρ
          have e19 : ρ (.tmp 19) = hdr N wr.heap.size := by rw [← hρ, Act.eval_put_same _ _ _ (by (repeat rw [Act.size_put]); omega)]
          obtain ⟨ec, ef⟩ := ev_cf hρ
          clear hρ
          simp only [List.getElem_toArray, List.getElem_cons_zero, List.getElem_cons_succ]
          go_simp
        refine wpAnyH_ready (rs := [5]) (by kernel_rfl) (by simp) ?_
        obtain ⟨M2, w2, hr, hown, hg, _, hat⟩ := run_append_own_at (P := Tryz.prog) ((wr.drew.alloc (.cells (arrB (List.replicate N false)) 4)).alloc (.cells #[hdr N wr.heap.size] 34)) (w.heap.size + 2) 85 85 34 i0 (.slice none 0 0) 1 24 Tryz.underlying85 hi hz0 hz1 hz2 rfl (by decide) M k _ ((hR.ref.drew.alloc _).alloc _).own ⟨wr.heap.size + 1, 0, none⟩ 1 1 [hdr N wr.heap.size] rfl (by have := cell_one_new (wr.drew.alloc (.cells (arrB (List.replicate N false)) 4)) (hdr N wr.heap.size) 34; simpa using this) (by simp [Value.oneCell']) (by unfold maxLen; omega) (by omega) (by have := hR.below.size; have := hR.box.lt; simp; omega)
        obtain ⟨g2, cap2, rfl⟩ := ownsRow_succ hown
        refine any_value (i := 5) (d := some 21) (v := .slice (some ⟨g2, 0, none⟩) (k + 1) cap2) (w' := w2) rfl rfl (by rfl) ?_ ?_ AllReadyH.nil
        · skip
          generalize hρ : Act.eval _ = ρ
          have e17 : ρ (.tmp 17) = M := by rw [← hρ, Act.eval_put_ne _ _ _ _ (by decide), Act.eval_put_ne _ _ _ _ (by decide), Act.eval_put_same _ _ _ (by (repeat rw [Act.size_put]); omega)]
          have e20 : ρ (.tmp 20) = .slice (some ⟨wr.heap.size + 1, 0, none⟩) 1 1 := by rw [← hρ, Act.eval_put_same _ _ _ (by (repeat rw [Act.size_put]); omega)]
          obtain ⟨ec, ef⟩ := ev_cf hρ
          clear hρ
          simp only [List.getElem_toArray, List.getElem_cons_zero, List.getElem_cons_succ]
          unfold execOp
          simp only [resolve, invoke, builtin, Sem.run_bind, Sem.run_pure, Result.andThen_ok, List.map_toArray, List.map_cons, List.map_nil, e17, e20, hr]
          done
        have hR2 := hR.next hown hg hat
        have hb2 := hR.kept hg
        have cM2 := hb2.cell (j := 1) rfl
        have fz2 := hb2.frozen 1
        refine any_take (i := 6) (d := some 22) (v := .pointer (some ⟨w.heap.size + 1, 1, none⟩)) rfl rfl (by kernel_rfl) (by kernel_rfl) (by kernel_rfl) (fun _ _ _ h => h) (by rfl) ?_ ?_
        · intro w9
          generalize hρ : Act.eval _ = ρ
          have e3 : ρ (.tmp 3) = pv (w.heap.size + 1) := by rw [← hρ, Act.eval_put_ne _ _ _ _ (by decide), Act.eval_put_ne _ _ _ _ (by decide), Act.eval_put_ne _ _ _ _ (by decide), Act.eval_put_ne _ _ _ _ (by decide), Act.eval_put_ne _ _ _ _ (by decide), Act.eval_put_ne _ _ _ _ (by decide), b3]
          obtain ⟨ec, ef⟩ := ev_cf hρ
          clear hρ
          simp only [List.getElem_toArray, List.getElem_cons_zero, List.getElem_cons_succ]
          go_simp
        refine wpAnyH_ready (rs := [7]) (by kernel_rfl) (by simp) ?_
        refine any_skip (i := 7) (d := none) (w' := w2.setCell ⟨w.heap.size + 1, 1, none⟩ (.slice (some ⟨g2, 0, none⟩) (k + 1) cap2)) rfl rfl (by rfl) ?_ ?_ AllReadyH.nil
        · skip
          generalize hρ : Act.eval _ = ρ
          have e21 : ρ (.tmp 21) = .slice (some ⟨g2, 0, none⟩) (k + 1) cap2 := by rw [← hρ, Act.eval_put_ne _ _ _ _ (by decide), Act.eval_put_same _ _ _ (by (repeat rw [Act.size_put]); omega)]
          have e22 : ρ (.tmp 22) = .pointer (some ⟨w.heap.size + 1, 1, none⟩) := by rw [← hρ, Act.eval_put_same _ _ _ (by (repeat rw [Act.size_put]); omega)]
          obtain ⟨ec, ef⟩ := ev_cf hρ
          clear hρ
          simp only [List.getElem_toArray, List.getElem_cons_zero, List.getElem_cons_succ]
          go_simp
        refine wpAnyH_done (by kernel_rfl) ?_ _
        subst hA
        simp only [Act.put, List.setIfInBounds_toArray, List.set_cons_zero, List.set_cons_succ]
        go_wp2_with fail
        refine ⟨⟨k + 1, _, _, by omega, by go_num, hR2⟩, by simp [intOf]; omega⟩
      refine any_value (i := 3) (d := some 19) (v := hdr N wr.heap.size) (w' := (wr.drew.alloc (.cells (arrB (List.replicate N false)) 4))) rfl rfl (by rfl) ?_ ?_ AllReadyH.nil
      · skip
        generalize hρ : Act.eval _ = ρ
        have e18 : ρ (.tmp 18) = .int .i64 ((N : Nat) : Int) := by rw [← hρ, Act.eval_put_same _ _ _ (by (repeat rw [Act.size_put]); omega)]
        obtain ⟨ec, ef⟩ := ev_cf hρ
        clear hρ
        simp only [List.getElem_toArray, List.getElem_cons_zero, List.getElem_cons_succ]
        go_simp
      refine wpAnyH_ready (rs := [1, 4]) (by kernel_rfl) (by simp) ?_
      refine any_value (i := 1) (d := some 17) (v := M) (w' := (wr.drew.alloc (.cells (arrB (List.replicate N false)) 4))) rfl rfl (by rfl) ?_ ?_ ?_
      · skip
        generalize hρ : Act.eval _ = ρ
        have e16 : ρ (.tmp 16) = .pointer (some ⟨w.heap.size + 1, 1, none⟩) := by rw [← hρ, Act.eval_put_ne _ _ _ _ (by decide), Act.eval_put_ne _ _ _ _ (by decide), Act.eval_put_same _ _ _ (by (repeat rw [Act.size_put]); omega)]
        obtain ⟨ec, ef⟩ := ev_cf hρ
        clear hρ
        simp only [List.getElem_toArray, List.getElem_cons_zero, List.getElem_cons_succ]
        go_simp
      · skip
        refine wpAnyH_ready (rs := [4]) (by kernel_rfl) (by simp) ?_
        refine any_value (i := 4) (d := some 20) (v := .slice (some ⟨wr.heap.size + 1, 0, none⟩) 1 1) (w' := ((wr.drew.alloc (.cells (arrB (List.replicate N false)) 4)).alloc (.cells #[hdr N wr.heap.size] 34))) rfl rfl (by rfl) ?_ ?_ AllReadyH.nil
        · skip
          generalize hρ : Act.eval _ = ρ
          have e19 : ρ (.tmp 19) = hdr N wr.heap.size := by rw [← hρ, Act.eval_put_ne _ _ _ _ (by decide), Act.eval_put_same _ _ _ (by (repeat rw [Act.size_put]); omega)]
          obtain ⟨ec, ef⟩ := ev_cf hρ
          clear hρ
          simp only [List.getElem_toArray, List.getElem_cons_zero, List.getElem_cons_succ]
          go_simp
        refine wpAnyH_ready (rs := [5]) (by kernel_rfl) (by simp) ?_
        obtain ⟨M2, w2, hr, hown, hg, _, hat⟩ := run_append_own_at (P := Tryz.prog) ((wr.drew.alloc (.cells (arrB (List.replicate N false)) 4)).alloc (.cells #[hdr N wr.heap.size] 34)) (w.heap.size + 2) 85 85 34 i0 (.slice none 0 0) 1 24 Tryz.underlying85 hi hz0 hz1 hz2 rfl (by decide) M k _ ((hR.ref.drew.alloc _).alloc _).own ⟨wr.heap.size + 1, 0, none⟩ 1 1 [hdr N wr.heap.size] rfl (by have := cell_one_new (wr.drew.alloc (.cells (arrB (List.replicate N false)) 4)) (hdr N wr.heap.size) 34; simpa using this) (by simp [Value.oneCell']) (by unfold maxLen; omega) (by omega) (by have := hR.below.size; have := hR.box.lt; simp; omega)
        obtain ⟨g2, cap2, rfl⟩ := ownsRow_succ hown
        refine any_value (i := 5) (d := some 21) (v := .slice (some ⟨g2, 0, none⟩) (k + 1) cap2) (w' := w2) rfl rfl (by rfl) ?_ ?_ AllReadyH.nil
        · skip
          generalize hρ : Act.eval _ = ρ
          have e17 : ρ (.tmp 17) = M := by rw [← hρ, Act.eval_put_ne _ _ _ _ (by decide), Act.eval_put_same _ _ _ (by (repeat rw [Act.size_put]); omega)]
          have e20 : ρ (.tmp 20) = .slice (some ⟨wr.heap.size + 1, 0, none⟩) 1 1 := by rw [← hρ, Act.eval_put_same _ _ _ (by (repeat rw [Act.size_put]); omega)]
          obtain ⟨ec, ef⟩ := ev_cf hρ
          clear hρ
          simp only [List.getElem_toArray, List.getElem_cons_zero, List.getElem_cons_succ]
          unfold execOp
          simp only [resolve, invoke, builtin, Sem.run_bind, Sem.run_pure, Result.andThen_ok, List.map_toArray, List.map_cons, List.map_nil, e17, e20, hr]
          done
        have hR2 := hR.next hown hg hat
        have hb2 := hR.kept hg
        have cM2 := hb2.cell (j := 1) rfl
        have fz2 := hb2.frozen 1
        refine any_take (i := 6) (d := some 22) (v := .pointer (some ⟨w.heap.size + 1, 1, none⟩)) rfl rfl (by kernel_rfl) (by kernel_rfl) (by kernel_rfl) (fun _ _ _ h => h) (by rfl) ?_ ?_
        · intro w9
          generalize hρ : Act.eval _ = ρ
          have e3 : ρ (.tmp 3) = pv (w.heap.size + 1) := by rw [← hρ, Act.eval_put_ne _ _ _ _ (by decide), Act.eval_put_ne _ _ _ _ (by decide), Act.eval_put_ne _ _ _ _ (by decide), Act.eval_put_ne _ _ _ _ (by decide), Act.eval_put_ne _ _ _ _ (by decide), Act.eval_put_ne _ _ _ _ (by decide), b3]
          obtain ⟨ec, ef⟩ := ev_cf hρ
          clear hρ
          simp only [List.getElem_toArray, List.getElem_cons_zero, List.getElem_cons_succ]
          go_simp
        refine wpAnyH_ready (rs := [7]) (by kernel_rfl) (by simp) ?_
        refine any_skip (i := 7) (d := none) (w' := w2.setCell ⟨w.heap.size + 1, 1, none⟩ (.slice (some ⟨g2, 0, none⟩) (k + 1) cap2)) rfl rfl (by rfl) ?_ ?_ AllReadyH.nil
        · skip
          generalize hρ : Act.eval _ = ρ
          have e21 : ρ (.tmp 21) = .slice (some ⟨g2, 0, none⟩) (k + 1) cap2 := by rw [← hρ, Act.eval_put_ne _ _ _ _ (by decide), Act.eval_put_same _ _ _ (by (repeat rw [Act.size_put]); omega)]
          have e22 : ρ (.tmp 22) = .pointer (some ⟨w.heap.size + 1, 1, none⟩) := by rw [← hρ, Act.eval_put_same _ _ _ (by (repeat rw [Act.size_put]); omega)]
          obtain ⟨ec, ef⟩ := ev_cf hρ
          clear hρ
          simp only [List.getElem_toArray, List.getElem_cons_zero, List.getElem_cons_succ]
          go_simp
        refine wpAnyH_done (by kernel_rfl) ?_ _
        subst hA
        simp only [Act.put, List.setIfInBounds_toArray, List.set_cons_zero, List.set_cons_succ]
        go_wp2_with fail
        refine ⟨⟨k + 1, _, _, by omega, by go_num, hR2⟩, by simp [intOf]; omega⟩
      refine any_value (i := 4) (d := some 20) (v := .slice (some ⟨wr.heap.size + 1, 0, none⟩) 1 1) (w' := ((wr.drew.alloc (.cells (arrB (List.replicate N false)) 4)).alloc (.cells #[hdr N wr.heap.size] 34))) rfl rfl (by rfl) ?_ ?_ AllReadyH.nil
      · skip
        generalize hρ : Act.eval _ = ρ
        have e19 : ρ (.tmp 19) = hdr N wr.heap.size := by rw [← hρ, Act.eval_put_same _ _ _ (by (repeat rw [Act.size_put]); omega)]
        obtain ⟨ec, ef⟩ := ev_cf hρ
        clear hρ
        simp only [List.getElem_toArray, List.getElem_cons_zero, List.getElem_cons_succ]
        go_simp
      refine wpAnyH_ready (rs := [1]) (by kernel_rfl) (by simp) ?_
      refine any_value (i := 1) (d := some 17) (v := M) (w' := ((wr.drew.alloc (.cells (arrB (List.replicate N false)) 4)).alloc (.cells #[hdr N wr.heap.size] 34))) rfl rfl (by rfl) ?_ ?_ AllReadyH.nil
      · skip
        generalize hρ : Act.eval _ = ρ
        have e16 : ρ (.tmp 16) = .pointer (some ⟨w.heap.size + 1, 1, none⟩) := by rw [← hρ, Act.eval_put_ne _ _ _ _ (by decide), Act.eval_put_ne _ _ _ _ (by decide), Act.eval_put_ne _ _ _ _ (by decide), Act.eval_put_same _ _ _ (by (repeat rw [Act.size_put]); omega)]
        obtain ⟨ec, ef⟩ := ev_cf hρ
        clear hρ
        simp only [List.getElem_toArray, List.getElem_cons_zero, List.getElem_cons_succ]
        go_simp
      refine wpAnyH_ready (rs := [5]) (by kernel_rfl) (by simp) ?_
      obtain ⟨M2, w2, hr, hown, hg, _, hat⟩ := run_append_own_at (P := Tryz.prog) ((wr.drew.alloc (.cells (arrB (List.replicate N false)) 4)).alloc (.cells #[hdr N wr.heap.size] 34)) (w.heap.size + 2) 85 85 34 i0 (.slice none 0 0) 1 24 Tryz.underlying85 hi hz0 hz1 hz2 rfl (by decide) M k _ ((hR.ref.drew.alloc _).alloc _).own ⟨wr.heap.size + 1, 0, none⟩ 1 1 [hdr N wr.heap.size] rfl (by have := cell_one_new (wr.drew.alloc (.cells (arrB (List.replicate N false)) 4)) (hdr N wr.heap.size) 34; simpa using this) (by simp [Value.oneCell']) (by unfold maxLen; omega) (by omega) (by have := hR.below.size; have := hR.box.lt; simp; omega)
      obtain ⟨g2, cap2, rfl⟩ := ownsRow_succ hown
      refine any_value (i := 5) (d := some 21) (v := .slice (some ⟨g2, 0, none⟩) (k + 1) cap2) (w' := w2) rfl rfl (by rfl) ?_ ?_ AllReadyH.nil
      · skip
        generalize hρ : Act.eval _ = ρ
        have e17 : ρ (.tmp 17) = M := by rw [← hρ, Act.eval_put_same _ _ _ (by (repeat rw [Act.size_put]); omega)]
        have e20 : ρ (.tmp 20) = .slice (some ⟨wr.heap.size + 1, 0, none⟩) 1 1 := by rw [← hρ, Act.eval_put_ne _ _ _ _ (by decide), Act.eval_put_same _ _ _ (by (repeat rw [Act.size_put]); omega)]
        obtain ⟨ec, ef⟩ := ev_cf hρ
        clear hρ
        simp only [List.getElem_toArray, List.getElem_cons_zero, List.getElem_cons_succ]
        unfold execOp
        simp only [resolve, invoke, builtin, Sem.run_bind, Sem.run_pure, Result.andThen_ok, List.map_toArray, List.map_cons, List.map_nil, e17, e20, hr]
        done
      have hR2 := hR.next hown hg hat
      have hb2 := hR.kept hg
      have cM2 := hb2.cell (j := 1) rfl
      have fz2 := hb2.frozen 1
      refine any_take (i := 6) (d := some 22) (v := .pointer (some ⟨w.heap.size + 1, 1, none⟩)) rfl rfl (by kernel_rfl) (by kernel_rfl) (by kernel_rfl) (fun _ _ _ h => h) (by rfl) ?_ ?_
      · intro w9
        generalize hρ : Act.eval _ = ρ
        have e3 : ρ (.tmp 3) = pv (w.heap.size + 1) := by rw [← hρ, Act.eval_put_ne _ _ _ _ (by decide), Act.eval_put_ne _ _ _ _ (by decide), Act.eval_put_ne _ _ _ _ (by decide), Act.eval_put_ne _ _ _ _ (by decide), Act.eval_put_ne _ _ _ _ (by decide), Act.eval_put_ne _ _ _ _ (by decide), b3]
        obtain ⟨ec, ef⟩ := ev_cf hρ
        clear hρ
        simp only [List.getElem_toArray, List.getElem_cons_zero, List.getElem_cons_succ]
        go_simp
      refine wpAnyH_ready (rs := [7]) (by kernel_rfl) (by simp) ?_
      refine any_skip (i := 7) (d := none) (w' := w2.setCell ⟨w.heap.size + 1, 1, none⟩ (.slice (some ⟨g2, 0, none⟩) (k + 1) cap2)) rfl rfl (by rfl) ?_ ?_ AllReadyH.nil
      · skip
        generalize hρ : Act.eval _ = ρ
        have e21 : ρ (.tmp 21) = .slice (some ⟨g2, 0, none⟩) (k + 1) cap2 := by rw [← hρ, Act.eval_put_ne _ _ _ _ (by decide), Act.eval_put_same _ _ _ (by (repeat rw [Act.size_put]); omega)]
        have e22 : ρ (.tmp 22) = .pointer (some ⟨w.heap.size + 1, 1, none⟩) := by rw [← hρ, Act.eval_put_same _ _ _ (by (repeat rw [Act.size_put]); omega)]
        obtain ⟨ec, ef⟩ := ev_cf hρ
        clear hρ
        simp only [List.getElem_toArray, List.getElem_cons_zero, List.getElem_cons_succ]
        go_simp
      refine wpAnyH_done (by kernel_rfl) ?_ _
      subst hA
      simp only [Act.put, List.setIfInBounds_toArray, List.set_cons_zero, List.set_cons_succ]
      go_wp2_with fail
      refine ⟨⟨k + 1, _, _, by omega, by go_num, hR2⟩, by simp [intOf]; omega⟩
    · have e : N = k := by omega
      subst e
      have c0 := hR.box.cell (j := 0) rfl
      have c1 := hR.box.cell (j := 1) rfl
      have d0 := hR.res.cell (j := 0) rfl
      have d1 := hR.res.cell (j := 1) rfl
      have f0 := hR.res.frozen 0
      have f1 := hR.res.frozen 1
      have hM1 : ∃ x y z, M = .slice x y z := by
        rcases hR.ref.own.2 with ⟨e, _⟩ | ⟨g, cap, cur, e, _⟩
        · exact ⟨_, _, _, e⟩
        · exact ⟨_, _, _, e⟩
      obtain ⟨x, y, z, rfl⟩ := hM1
      go_wp2_with fail
      have hres := (hR.res.set 0 (.int .i64 ((N : Nat) : Int))).set 1 (.slice x y z)
      simp only [List.setIfInBounds_toArray, List.set_cons_zero, List.set_cons_succ] at hres
      (try simp only [Exit.inBlock, Exit.then])
      refine bodyPost_ret (ret_ref rfl rfl hres) rfl ?_
      have hA1 : RefM w.heap.size ((wr.setCell ⟨w.heap.size, 0, none⟩ (.int .i64 ((N : Nat) : Int))).setCell ⟨w.heap.size, 1, none⟩ (.slice x y z)) (.slice x y z) N N rb (fun _ _ => false) := RefM.mono (hR.ref.below' fun g hg _ => by rw [Below.heap_setCell _ _ _ _ (by simp; omega), Below.heap_setCell _ _ _ _ (by simp; omega)]) (by omega)
      have hB1 := (hR.below.setCell (p := ⟨w.heap.size, 0, none⟩) (Nat.le_refl _) (.int .i64 ((N : Nat) : Int))).setCell (p := ⟨w.heap.size, 1, none⟩) (Nat.le_refl _) (.slice x y z)
      first | exact ⟨_, rb, rfl, hA1, hB1⟩ | exact ⟨_, rfl, ⟨rb, hA1⟩, hB1⟩
set_option maxRecDepth 100000 in
set_option maxHeartbeats 4000000 in
theorem refNew_big (n : Int) (hn : 256 < n) (w : World) (N : Nat) (HN : Hid (N = 256)) :
    Calls Tryz.prog 98 #[.int .i64 n] w fun e w' => ∃ M rb, e = .returned (.agg #[.int .i64 ((N : Nat) : Int), M]) ∧ RefM w.heap.size w' M N N rb (fun _ _ => false) ∧ Below w.heap.size w w' := by
  obtain ⟨i0, hi, hz0, hz1, hz2⟩ := info_parts Tryz.infobools
  go_enter Tryz.func98, Tryz.ntmps98
  go_wp2_with fail
  go_loopw [4] (fun i wr => ∃ k M rb, k ≤ N ∧ i = .int .i64 ((k : Nat) : Int) ∧ RefMid w wr M k N rb) (fun i _ => N - (intOf i).toNat)
  case atStart =>
    refine ⟨0, .slice none 0 0, fun _ => 0, by omega, rfl, ?_, ?_, ?_, RefM.nil _ _ _ _ _⟩
    · exact ((Below.refl _ w).alloc (Nat.le_refl _) _).alloc (by simp) _
    · exact (Blk.new w _ _).alloc _
    · rw [HN.out]
      exact Blk.new2 w _ _ _
  case round =>
    obtain ⟨k, M, rb, hk, rfl, hR⟩ := hrel
    by_cases hlt : k < N
    · have cM := hR.box.cell (j := 1) rfl
      have hlt2 : ((k : Nat) : Int) < 256 := by have := HN.out; omega
      have hN : N ≤ 256 := by have := HN.out; omega
      have cM1 := (hR.box.alloc (.cells (arrB (List.replicate N false)) 4)).cell (j := 1) rfl
      have cM3 := ((hR.box.alloc (.cells (arrB (List.replicate N false)) 4)).alloc (.cells #[hdr N wr.heap.size] 34)).cell (j := 1) rfl
      have hmk := make_bools N (by omega)
      go_wp2_with fail
      generalize hA : Act.mk _ _ = a0
      have hsz : a0.tmps.size = 24 := by rw [← hA]; rfl
      have b0 : Act.eval a0 (.tmp 0) = .int .i64 ((N : Nat) : Int) := by rw [← hA, HN.out]; rfl
      have b3 : Act.eval a0 (.tmp 3) = pv (w.heap.size + 1) := by rw [← hA]; rfl
      refine wp_region_held_drew (S := fun _ => True) (by kernel_rfl) trivial (fun _ => ?_)
      refine any_take (i := 0) (d := some 16) (v := .pointer (some ⟨w.heap.size + 1, 1, none⟩)) rfl rfl (by kernel_rfl) (by kernel_rfl) (by kernel_rfl) (fun _ _ _ h => h) (by rfl) ?_ ?_
      · intro w9
        have e3 := b3
        have ec : ∀ v, Act.eval a0 (.const v) = v := fun _ => rfl
        have ef : ∀ f, Act.eval a0 (.func f) = .func (.func f) #[] #[] := fun _ => rfl
        generalize Act.eval a0 = ρ at *
        simp only [List.getElem_toArray, List.getElem_cons_zero]
        go_simp
      refine any_take (i := 2) (d := some 18) (v := .int .i64 ((N : Nat) : Int)) rfl rfl (by kernel_rfl) (by kernel_rfl) (by kernel_rfl) (fun _ _ _ h => h) (by rfl) ?_ ?_
      · intro w9
        generalize hρ : Act.eval _ = ρ
        have e0 : ρ (.tmp 0) = .int .i64 ((N : Nat) : Int) := by rw [← hρ, Act.eval_put_ne _ _ _ _ (by decide), b0]
        obtain ⟨ec, ef⟩ := ev_cf hρ
        clear hρ
        simp only [List.getElem_toArray, List.getElem_cons_zero, List.getElem_cons_succ]
        go_simp
      refine wpAnyH_ready (rs := [1, 3]) (by kernel_rfl) (by simp) ?_
      refine any_value (i := 1) (d := some 17) (v := M) (w' := wr.drew) rfl rfl (by rfl) ?_ ?_ ?_
      · skip
        generalize hρ : Act.eval _ = ρ
        have e16 : ρ (.tmp 16) = .pointer (some ⟨w.heap.size + 1, 1, none⟩) := by rw [← hρ, Act.eval_put_ne _ _ _ _ (by decide), Act.eval_put_same _ _ _ (by (repeat rw [Act.size_put]); omega)]
        obtain ⟨ec, ef⟩ := ev_cf hρ
        clear hρ
        simp only [List.getElem_toArray, List.getElem_cons_zero, List.getElem_cons_succ]
        go_simp
      · skip
        refine wpAnyH_ready (rs := [3]) (by kernel_rfl) (by simp) ?_
        refine any_value (i := 3) (d := some 19) (v := hdr N wr.heap.size) (w' := (wr.drew.alloc (.cells (arrB (List.replicate N false)) 4))) rfl rfl (by rfl) ?_ ?_ AllReadyH.nil
        · skip
          generalize hρ : Act.eval _ = ρ
          have e18 : ρ (.tmp 18) = .int .i64 ((N : Nat) : Int) := by rw [← hρ, Act.eval_put_ne _ _ _ _ (by decide), Act.eval_put_same _ _ _ (by (repeat rw [Act.size_put]); omega)]
          obtain ⟨ec, ef⟩ := ev_cf hρ
          clear hρ
          simp only [List.getElem_toArray, List.getElem_cons_zero, List.getElem_cons_succ]
          go_simp
        refine wpAnyH_ready (rs := [4]) (by kernel_rfl) (by simp) ?_
        refine any_value (i := 4) (d := some 20) (v := .slice (some ⟨wr.heap.size + 1, 0, none⟩) 1 1) (w' := ((wr.drew.alloc (.cells (arrB (List.replicate N false)) 4)).alloc (.cells #[hdr N wr.heap.size] 34))) rfl rfl (by rfl) ?_ ?_ AllReadyH.nil
        · skip
          generalize hρ : Act.eval _ = ρ
          have e19 : ρ (.tmp 19) = hdr N wr.heap.size := by rw [← hρ, Act.eval_put_same _ _ _ (by (repeat rw [Act.size_put]); omega)]
          obtain ⟨ec, ef⟩ := ev_cf hρ
          clear hρ
          simp only [List.getElem_toArray, List.getElem_cons_zero, List.getElem_cons_succ]
          go_simp
        refine wpAnyH_ready (rs := [5]) (by kernel_rfl) (by simp) ?_
        obtain ⟨M2, w2, hr, hown, hg, _, hat⟩ := run_append_own_at (P := Tryz.prog) ((wr.drew.alloc (.cells (arrB (List.replicate N false)) 4)).alloc (.cells #[hdr N wr.heap.size] 34)) (w.heap.size + 2) 85 85 34 i0 (.slice none 0 0) 1 24 Tryz.underlying85 hi hz0 hz1 hz2 rfl (by decide) M k _ ((hR.ref.drew.alloc _).alloc _).own ⟨wr.heap.size + 1, 0, none⟩ 1 1 [hdr N wr.heap.size] rfl (by have := cell_one_new (wr.drew.alloc (.cells (arrB (List.replicate N false)) 4)) (hdr N wr.heap.size) 34; simpa using this) (by simp [Value.oneCell']) (by unfold maxLen; omega) (by omega) (by have := hR.below.size; have := hR.box.lt; simp; omega)
        obtain ⟨g2, cap2, rfl⟩ := ownsRow_succ hown
        refine any_value (i := 5) (d := some 21) (v := .slice (some ⟨g2, 0, none⟩) (k + 1) cap2) (w' := w2) rfl rfl (by rfl) ?_ ?_ AllReadyH.nil
        · skip
          generalize hρ : Act.eval _ = ρ
          have e17 : ρ (.tmp 17) = M := by rw [← hρ, Act.eval_put_ne _ _ _ _ (by decide), Act.eval_put_ne _ _ _ _ (by decide), Act.eval_put_same _ _ _ (by (repeat rw [Act.size_put]); omega)]
          have e20 : ρ (.tmp 20) = .slice (some ⟨wr.heap.size + 1, 0, none⟩) 1 1 := by rw [← hρ, Act.eval_put_same _ _ _ (by (repeat rw [Act.size_put]); omega)]
          obtain ⟨ec, ef⟩ := ev_cf hρ
          clear hρ
          simp only [List.getElem_toArray, List.getElem_cons_zero, List.getElem_cons_succ]
          unfold execOp
          simp only [resolve, invoke, builtin, Sem.run_bind, Sem.run_pure, Result.andThen_ok, List.map_toArray, List.map_cons, List.map_nil, e17, e20, hr]
          done
        have hR2 := hR.next hown hg hat
        have hb2 := hR.kept hg
        have cM2 := hb2.cell (j := 1) rfl
        have fz2 := hb2.frozen 1
        refine any_take (i := 6) (d := some 22) (v := .pointer (some ⟨w.heap.size + 1, 1, none⟩)) rfl rfl (by kernel_rfl) (by kernel_rfl) (by kernel_rfl) (fun _ _ _ h => h) (by rfl) ?_ ?_
        · intro w9
          generalize hρ : Act.eval _ = ρ
          have e3 : ρ (.tmp 3) = pv (w.heap.size + 1) := by rw [← hρ, Act.eval_put_ne _ _ _ _ (by decide), Act.eval_put_ne _ _ _ _ (by decide), Act.eval_put_ne _ _ _ _ (by decide), Act.eval_put_ne _ _ _ _ (by decide), Act.eval_put_ne _ _ _ _ (by decide), Act.eval_put_ne _ _ _ _ (by decide), b3]
          obtain ⟨ec, ef⟩ := ev_cf hρ
          clear hρ
          simp only [List.getElem_toArray, List.getElem_cons_zero, List.getElem_cons_succ]
          go_simp
        refine wpAnyH_ready (rs := [7]) (by kernel_rfl) (by simp) ?_
        refine any_skip (i := 7) (d := none) (w' := w2.setCell ⟨w.heap.size + 1, 1, none⟩ (.slice (some ⟨g2, 0, none⟩) (k + 1) cap2)) rfl rfl (by rfl) ?_ ?_ AllReadyH.nil
        · skip
          generalize hρ : Act.eval _ = ρ
          have e21 : ρ (.tmp 21) = .slice (some ⟨g2, 0, none⟩) (k + 1) cap2 := by rw [← hρ, Act.eval_put_ne _ _ _ _ (by decide), Act.eval_put_same _ _ _ (by (repeat rw [Act.size_put]); omega)]
          have e22 : ρ (.tmp 22) = .pointer (some ⟨w.heap.size + 1, 1, none⟩) := by rw [← hρ, Act.eval_put_same _ _ _ (by (repeat rw [Act.size_put]); omega)]
          obtain ⟨ec, ef⟩ := ev_cf hρ
          clear hρ
          simp only [List.getElem_toArray, List.getElem_cons_zero, List.getElem_cons_succ]
          go_simp
        refine wpAnyH_done (by kernel_rfl) ?_ _
        subst hA
        simp only [Act.put, List.setIfInBounds_toArray, List.set_cons_zero, List.set_cons_succ]
        go_wp2_with fail
        refine ⟨⟨k + 1, _, _, by omega, by go_num, hR2⟩, by simp [intOf]; omega⟩
      refine any_value (i := 3) (d := some 19) (v := hdr N wr.heap.size) (w' := (wr.drew.alloc (.cells (arrB (List.replicate N false)) 4))) rfl rfl (by rfl) ?_ ?_ AllReadyH.nil
      · skip
        generalize hρ : Act.eval _ = ρ
        have e18 : ρ (.tmp 18) = .int .i64 ((N : Nat) : Int) := by rw [← hρ, Act.eval_put_same _ _ _ (by (repeat rw [Act.size_put]); omega)]
        obtain ⟨ec, ef⟩ := ev_cf hρ
        clear hρ
        simp only [List.getElem_toArray, List.getElem_cons_zero, List.getElem_cons_succ]
        go_simp
      refine wpAnyH_ready (rs := [1, 4]) (by kernel_rfl) (by simp) ?_
      refine any_value (i := 1) (d := some 17) (v := M) (w' := (wr.drew.alloc (.cells (arrB (List.replicate N false)) 4))) rfl rfl (by rfl) ?_ ?_ ?_
      · skip
        generalize hρ : Act.eval _ = ρ
        have e16 : ρ (.tmp 16) = .pointer (some ⟨w.heap.size + 1, 1, none⟩) := by rw [← hρ, Act.eval_put_ne _ _ _ _ (by decide), Act.eval_put_ne _ _ _ _ (by decide), Act.eval_put_same _ _ _ (by (repeat rw [Act.size_put]); omega)]
        obtain ⟨ec, ef⟩ := ev_cf hρ
        clear hρ
        simp only [List.getElem_toArray, List.getElem_cons_zero, List.getElem_cons_succ]
        go_simp
      · skip
        refine wpAnyH_ready (rs := [4]) (by kernel_rfl) (by simp) ?_
        refine any_value (i := 4) (d := some 20) (v := .slice (some ⟨wr.heap.size + 1, 0, none⟩) 1 1) (w' := ((wr.drew.alloc (.cells (arrB (List.replicate N false)) 4)).alloc (.cells #[hdr N wr.heap.size] 34))) rfl rfl (by rfl) ?_ ?_ AllReadyH.nil
        · skip
          generalize hρ : Act.eval _ = ρ
          have e19 : ρ (.tmp 19) = hdr N wr.heap.size := by rw [← hρ, Act.eval_put_ne _ _ _ _ (by decide), Act.eval_put_same _ _ _ (by (repeat rw [Act.size_put]); omega)]
          obtain ⟨ec, ef⟩ := ev_cf hρ
          clear hρ
          simp only [List.getElem_toArray, List.getElem_cons_zero, List.getElem_cons_succ]
          go_simp
        refine wpAnyH_ready (rs := [5]) (by kernel_rfl) (by simp) ?_
        obtain ⟨M2, w2, hr, hown, hg, _, hat⟩ := run_append_own_at (P := Tryz.prog) ((wr.drew.alloc (.cells (arrB (List.replicate N false)) 4)).alloc (.cells #[hdr N wr.heap.size] 34)) (w.heap.size + 2) 85 85 34 i0 (.slice none 0 0) 1 24 Tryz.underlying85 hi hz0 hz1 hz2 rfl (by decide) M k _ ((hR.ref.drew.alloc _).alloc _).own ⟨wr.heap.size + 1, 0, none⟩ 1 1 [hdr N wr.heap.size] rfl (by have := cell_one_new (wr.drew.alloc (.cells (arrB (List.replicate N false)) 4)) (hdr N wr.heap.size) 34; simpa using this) (by simp [Value.oneCell']) (by unfold maxLen; omega) (by omega) (by have := hR.below.size; have := hR.box.lt; simp; omega)
        obtain ⟨g2, cap2, rfl⟩ := ownsRow_succ hown
        refine any_value (i := 5) (d := some 21) (v := .slice (some ⟨g2, 0, none⟩) (k + 1) cap2) (w' := w2) rfl rfl (by rfl) ?_ ?_ AllReadyH.nil
        · skip
          generalize hρ : Act.eval _ = ρ
          have e17 : ρ (.tmp 17) = M := by rw [← hρ, Act.eval_put_ne _ _ _ _ (by decide), Act.eval_put_same _ _ _ (by (repeat rw [Act.size_put]); omega)]
          have e20 : ρ (.tmp 20) = .slice (some ⟨wr.heap.size + 1, 0, none⟩) 1 1 := by rw [← hρ, Act.eval_put_same _ _ _ (by (repeat rw [Act.size_put]); omega)]
          obtain ⟨ec, ef⟩ := ev_cf hρ
          clear hρ
          simp only [List.getElem_toArray, List.getElem_cons_zero, List.getElem_cons_succ]
          unfold execOp
          simp only [resolve, invoke, builtin, Sem.run_bind, Sem.run_pure, Result.andThen_ok, List.map_toArray, List.map_cons, List.map_nil, e17, e20, hr]
          done
        have hR2 := hR.next hown hg hat
        have hb2 := hR.kept hg
        have cM2 := hb2.cell (j := 1) rfl
        have fz2 := hb2.frozen 1
        refine any_take (i := 6) (d := some 22) (v := .pointer (some ⟨w.heap.size + 1, 1, none⟩)) rfl rfl (by kernel_rfl) (by kernel_rfl) (by kernel_rfl) (fun _ _ _ h => h) (by rfl) ?_ ?_
        · intro w9
          generalize hρ : Act.eval _ = ρ
          have e3 : ρ (.tmp 3) = pv (w.heap.size + 1) := by rw [← hρ, Act.eval_put_ne _ _ _ _ (by decide), Act.eval_put_ne _ _ _ _ (by decide), Act.eval_put_ne _ _ _ _ (by decide), Act.eval_put_ne _ _ _ _ (by decide), Act.eval_put_ne _ _ _ _ (by decide), Act.eval_put_ne _ _ _ _ (by decide), b3]
          obtain ⟨ec, ef⟩ := ev_cf hρ
          clear hρ
          simp only [List.getElem_toArray, List.getElem_cons_zero, List.getElem_cons_succ]
          go_simp
        refine wpAnyH_ready (rs := [7]) (by kernel_rfl) (by simp) ?_
        refine any_skip (i := 7) (d := none) (w' := w2.setCell ⟨w.heap.size + 1, 1, none⟩ (.slice (some ⟨g2, 0, none⟩) (k + 1) cap2)) rfl rfl (by rfl) ?_ ?_ AllReadyH.nil
        · skip
          generalize hρ : Act.eval _ = ρ
          have e21 : ρ (.tmp 21) = .slice (some ⟨g2, 0, none⟩) (k + 1) cap2 := by rw [← hρ, Act.eval_put_ne _ _ _ _ (by decide), Act.eval_put_same _ _ _ (by (repeat rw [Act.size_put]); omega)]
          have e22 : ρ (.tmp 22) = .pointer (some ⟨w.heap.size + 1, 1, none⟩) := by rw [← hρ, Act.eval_put_same _ _ _ (by (repeat rw [Act.size_put]); omega)]
          obtain ⟨ec, ef⟩ := ev_cf hρ
          clear hρ
          simp only [List.getElem_toArray, List.getElem_cons_zero, List.getElem_cons_succ]
          go_simp
        refine wpAnyH_done (by kernel_rfl) ?_ _
        subst hA
        simp only [Act.put, List.setIfInBounds_toArray, List.set_cons_zero, List.set_cons_succ]
        go_wp2_with fail
        refine ⟨⟨k + 1, _, _, by omega, by go_num, hR2⟩, by simp [intOf]; omega⟩
      refine any_value (i := 4) (d := some 20) (v := .slice (some ⟨wr.heap.size + 1, 0, none⟩) 1 1) (w' := ((wr.drew.alloc (.cells (arrB (List.replicate N false)) 4)).alloc (.cells #[hdr N wr.heap.size] 34))) rfl rfl (by rfl) ?_ ?_ AllReadyH.nil
      · skip
        generalize hρ : Act.eval _ = ρ
        have e19 : ρ (.tmp 19) = hdr N wr.heap.size := by rw [← hρ, Act.eval_put_same _ _ _ (by (repeat rw [Act.size_put]); omega)]
        obtain ⟨ec, ef⟩ := ev_cf hρ
        clear hρ
        simp only [List.getElem_toArray, List.getElem_cons_zero, List.getElem_cons_succ]
        go_simp
      refine wpAnyH_ready (rs := [1]) (by kernel_rfl) (by simp) ?_
      refine any_value (i := 1) (d := some 17) (v := M) (w' := ((wr.drew.alloc (.cells (arrB (List.replicate N false)) 4)).alloc (.cells #[hdr N wr.heap.size] 34))) rfl rfl (by rfl) ?_ ?_ AllReadyH.nil
      · skip
        generalize hρ : Act.eval _ = ρ
        have e16 : ρ (.tmp 16) = .pointer (some ⟨w.heap.size + 1, 1, none⟩) := by rw [← hρ, Act.eval_put_ne _ _ _ _ (by decide), Act.eval_put_ne _ _ _ _ (by decide), Act.eval_put_ne _ _ _ _ (by decide), Act.eval_put_same _ _ _ (by (repeat rw [Act.size_put]); omega)]
        obtain ⟨ec, ef⟩ := ev_cf hρ
        clear hρ
        simp only [List.getElem_toArray, List.getElem_cons_zero, List.getElem_cons_succ]
        go_simp
      refine wpAnyH_ready (rs := [5]) (by kernel_rfl) (by simp) ?_
      obtain ⟨M2, w2, hr, hown, hg, _, hat⟩ := run_append_own_at (P := Tryz.prog) ((wr.drew.alloc (.cells (arrB (List.replicate N false)) 4)).alloc (.cells #[hdr N wr.heap.size] 34)) (w.heap.size + 2) 85 85 34 i0 (.slice none 0 0) 1 24 Tryz.underlying85 hi hz0 hz1 hz2 rfl (by decide) M k _ ((hR.ref.drew.alloc _).alloc _).own ⟨wr.heap.size + 1, 0, none⟩ 1 1 [hdr N wr.heap.size] rfl (by have := cell_one_new (wr.drew.alloc (.cells (arrB (List.replicate N false)) 4)) (hdr N wr.heap.size) 34; simpa using this) (by simp [Value.oneCell']) (by unfold maxLen; omega) (by omega) (by have := hR.below.size; have := hR.box.lt; simp; omega)
      obtain ⟨g2, cap2, rfl⟩ := ownsRow_succ hown
      refine any_value (i := 5) (d := some 21) (v := .slice (some ⟨g2, 0, none⟩) (k + 1) cap2) (w' := w2) rfl rfl (by rfl) ?_ ?_ AllReadyH.nil
      · skip
        generalize hρ : Act.eval _ = ρ
        have e17 : ρ (.tmp 17) = M := by rw [← hρ, Act.eval_put_same _ _ _ (by (repeat rw [Act.size_put]); omega)]
        have e20 : ρ (.tmp 20) = .slice (some ⟨wr.heap.size + 1, 0, none⟩) 1 1 := by rw [← hρ, Act.eval_put_ne _ _ _ _ (by decide), Act.eval_put_same _ _ _ (by (repeat rw [Act.size_put]); omega)]
        obtain ⟨ec, ef⟩ := ev_cf hρ
        clear hρ
        simp only [List.getElem_toArray, List.getElem_cons_zero, List.getElem_cons_succ]
        unfold execOp
        simp only [resolve, invoke, builtin, Sem.run_bind, Sem.run_pure, Result.andThen_ok, List.map_toArray, List.map_cons, List.map_nil, e17, e20, hr]
        done
      have hR2 := hR.next hown hg hat
      have hb2 := hR.kept hg
      have cM2 := hb2.cell (j := 1) rfl
      have fz2 := hb2.frozen 1
      refine any_take (i := 6) (d := some 22) (v := .pointer (some ⟨w.heap.size + 1, 1, none⟩)) rfl rfl (by kernel_rfl) (by kernel_rfl) (by kernel_rfl) (fun _ _ _ h => h) (by rfl) ?_ ?_
      · intro w9
        generalize hρ : Act.eval _ = ρ
        have e3 : ρ (.tmp 3) = pv (w.heap.size + 1) := by rw [← hρ, Act.eval_put_ne _ _ _ _ (by decide), Act.eval_put_ne _ _ _ _ (by decide), Act.eval_put_ne _ _ _ _ (by decide), Act.eval_put_ne _ _ _ _ (by decide), Act.eval_put_ne _ _ _ _ (by decide), Act.eval_put_ne _ _ _ _ (by decide), b3]
        obtain ⟨ec, ef⟩ := ev_cf hρ
        clear hρ
        simp only [List.getElem_toArray, List.getElem_cons_zero, List.getElem_cons_succ]
        go_simp
      refine wpAnyH_ready (rs := [7]) (by kernel_rfl) (by simp) ?_
      refine any_skip (i := 7) (d := none) (w' := w2.setCell ⟨w.heap.size + 1, 1, none⟩ (.slice (some ⟨g2, 0, none⟩) (k + 1) cap2)) rfl rfl (by rfl) ?_ ?_ AllReadyH.nil
      · skip
        generalize hρ : Act.eval _ = ρ
        have e21 : ρ (.tmp 21) = .slice (some ⟨g2, 0, none⟩) (k + 1) cap2 := by rw [← hρ, Act.eval_put_ne _ _ _ _ (by decide), Act.eval_put_same _ _ _ (by (repeat rw [Act.size_put]); omega)]
        have e22 : ρ (.tmp 22) = .pointer (some ⟨w.heap.size + 1, 1, none⟩) := by rw [← hρ, Act.eval_put_same _ _ _ (by (repeat rw [Act.size_put]); omega)]
        obtain ⟨ec, ef⟩ := ev_cf hρ
        clear hρ
        simp only [List.getElem_toArray, List.getElem_cons_zero, List.getElem_cons_succ]
        go_simp
      refine wpAnyH_done (by kernel_rfl) ?_ _
      subst hA
      simp only [Act.put, List.setIfInBounds_toArray, List.set_cons_zero, List.set_cons_succ]
      go_wp2_with fail
      refine ⟨⟨k + 1, _, _, by omega, by go_num, hR2⟩, by simp [intOf]; omega⟩
    · have e : N = k := by omega
      subst e
      have hge : ¬ ((N : Nat) : Int) < 256 := by have := HN.out; omega
      have c0 := hR.box.cell (j := 0) rfl
      have c1 := hR.box.cell (j := 1) rfl
      have d0 := hR.res.cell (j := 0) rfl
      have d1 := hR.res.cell (j := 1) rfl
      have f0 := hR.res.frozen 0
      have f1 := hR.res.frozen 1
      have hM1 : ∃ x y z, M = .slice x y z := by
        rcases hR.ref.own.2 with ⟨e, _⟩ | ⟨g, cap, cur, e, _⟩
        · exact ⟨_, _, _, e⟩
        · exact ⟨_, _, _, e⟩
      obtain ⟨x, y, z, rfl⟩ := hM1
      go_wp2_with fail
      have hres := (hR.res.set 0 (.int .i64 ((N : Nat) : Int))).set 1 (.slice x y z)
      simp only [List.setIfInBounds_toArray, List.set_cons_zero, List.set_cons_succ] at hres
      (try simp only [Exit.inBlock, Exit.then])
      refine bodyPost_ret (ret_ref rfl rfl hres) rfl ?_
      have hA1 : RefM w.heap.size ((wr.setCell ⟨w.heap.size, 0, none⟩ (.int .i64 ((N : Nat) : Int))).setCell ⟨w.heap.size, 1, none⟩ (.slice x y z)) (.slice x y z) N N rb (fun _ _ => false) := RefM.mono (hR.ref.below' fun g hg _ => by rw [Below.heap_setCell _ _ _ _ (by simp; omega), Below.heap_setCell _ _ _ _ (by simp; omega)]) (by omega)
      have hB1 := (hR.below.setCell (p := ⟨w.heap.size, 0, none⟩) (Nat.le_refl _) (.int .i64 ((N : Nat) : Int))).setCell (p := ⟨w.heap.size, 1, none⟩) (Nat.le_refl _) (.slice x y z)
      first | exact ⟨_, rb, rfl, hA1, hB1⟩ | exact ⟨_, rfl, ⟨rb, hA1⟩, hB1⟩
set_option maxHeartbeats 4000000 in
theorem refNew_neg (n : Int) (hn : n < 0) (w : World) :
    Calls Tryz.prog 98 #[.int .i64 n] w fun e w' => ∃ M rb, e = .returned (.agg #[.int .i64 ((0 : Nat) : Int), M]) ∧ RefM w.heap.size w' M 0 0 rb (fun _ _ => false) ∧ Below w.heap.size w w' := by
  go_enter Tryz.func98, Tryz.ntmps98
  go_wp2_with fail
  go_loopw [4] (fun i wr => i = .int .i64 0 ∧ RefMid w wr (.slice none 0 0) 0 0 (fun _ => 0)) (fun _ _ => 0)
  case atStart =>
    refine ⟨rfl, ?_, ?_, ?_, RefM.nil _ _ _ _ _⟩
    · exact ((Below.refl _ w).alloc (Nat.le_refl _) _).alloc (by simp) _
    · exact (Blk.new w _ _).alloc _
    · exact Blk.new2 w _ _ _
  case round =>
    obtain ⟨rfl, hR⟩ := hrel
    have c0 := hR.box.cell (j := 0) rfl
    have c1 := hR.box.cell (j := 1) rfl
    have d0 := hR.res.cell (j := 0) rfl
    have d1 := hR.res.cell (j := 1) rfl
    have f0 := hR.res.frozen 0
    have f1 := hR.res.frozen 1
    go_wp2_with fail
    have hres := (hR.res.set 0 (.int .i64 ((0 : Nat) : Int))).set 1 (.slice none 0 0)
    simp only [List.setIfInBounds_toArray, List.set_cons_zero, List.set_cons_succ] at hres
    (try simp only [Exit.inBlock, Exit.then])
    refine bodyPost_ret (ret_ref rfl rfl hres) rfl ?_
    refine ⟨_, fun _ => 0, rfl, RefM.mono (hR.ref.below' fun g hg _ => ?_) (by omega), (hR.below.setCell (Nat.le_refl _) _).setCell (Nat.le_refl _) _⟩
    rw [Below.heap_setCell _ _ _ _ (by simp; omega), Below.heap_setCell _ _ _ _ (by simp; omega)]
theorem refNew_calls (n : Int) (w : World) :
    Calls Tryz.prog 98 #[.int .i64 n] w fun e w' => ∃ M rb, e = .returned (.agg #[.int .i64 ((clampN n : Nat) : Int), M]) ∧ RefM w.heap.size w' M (clampN n) (clampN n) rb (fun _ _ => false) ∧ Below w.heap.size w w' := by
  by_cases h1 : n < 0
  · rw [show clampN n = 0 by unfold clampN; omega]
    exact refNew_neg n h1 w
  · by_cases h2 : 256 < n
    · rw [show clampN n = 256 by unfold clampN; omega]
      exact refNew_big n h2 w 256 rfl
    · obtain ⟨N, rfl⟩ : ∃ N : Nat, n = ((N : Nat) : Int) := ⟨n.toNat, by omega⟩
      rw [show clampN ((N : Nat) : Int) = N by unfold clampN; omega]
      exact refNew_mid N (by omega) w
end Go.Proofs.YthiijcappjaagaaGreatDoor
namespace Go.Proofs.YthiijcappjaagaaGreatDoor
open Go.RowKit Go.Shelf Sx
end Go.Proofs.YthiijcappjaagaaGreatDoor
namespace Go.Proofs.YthiijcappjaagaaGreatDoor
open Go.RowKit Go.Shelf Sx
end Go.Proofs.YthiijcappjaagaaGreatDoor
namespace Go.Proofs.YthiijcappjaagaaGreatDoor
open Go.RowKit Go.Shelf Sx Relation
def hs (L : List Nat) (p q : Nat) : Prop := (gr L p).testBit q = true
structure WF (n : Nat) (L : List Nat) : Prop where
  len : L.length = n
  low : ∀ p q, hs L p q → q < n
theorem hs_left {L : List Nat} {p q : Nat} (h : hs L p q) : p < L.length := by
  apply Nat.lt_of_not_le
  intro hle
  unfold hs at h
  rw [gr_not (by omega)] at h
  simp at h
theorem IsRel.wf {w : World} {b c : Nat} {L : List Nat} (h : IsRel w b c L) {n : Nat} (hn : L.length = n) : WF n L := by
  refine ⟨hn, fun p q hq => ?_⟩
  apply Nat.lt_of_not_le
  intro hle
  have h1 := testBit_of_lt (h.gr_lt p) (by omega : L.length ≤ q)
  unfold hs at hq
  rw [h1] at hq
  cases hq
theorem WF.ext {n : Nat} {A B : List Nat} (ha : WF n A) (hb : WF n B) (h : ∀ p q, hs A p q ↔ hs B p q) : A = B := by
  apply List.ext_getElem?
  intro p
  by_cases hp : p < n
  · rw [gr_of (by rw [ha.len]; exact hp), gr_of (by rw [hb.len]; exact hp)]
    congr 1
    apply Nat.eq_of_testBit_eq
    intro q
    rw [Bool.eq_iff_iff]
    exact h p q
  · rw [List.getElem?_eq_none (by rw [ha.len]; omega), List.getElem?_eq_none (by rw [hb.len]; omega)]
theorem join_bits (L : List Nat) (q : Nat) : ∀ (l : List Nat) (s : Nat), (l.foldl (fun s p => s ||| gr L p) s).testBit q = true ↔ s.testBit q = true ∨ ∃ p ∈ l, hs L p q
  | [], s => by simp
  | x :: l, s => by
    rw [List.foldl_cons, join_bits L q l, Nat.testBit_or, Bool.or_eq_true]
    unfold hs
    simp [or_assoc]
theorem hs_fill {n k : Nat} {f : Nat → Nat} {p q : Nat} (hk : n ≤ k) : hs (fillK n f k) p q ↔ p < n ∧ (f p).testBit q = true := by
  by_cases hp : p < n
  · unfold hs
    rw [gr_eq (fillK_at hp), if_pos (by omega)]
    simp [hp]
  · constructor
    · intro h
      have := hs_left h
      rw [fillK_length] at this
      omega
    · exact fun h => absurd h.1 hp
section
variable {n : Nat} {A B C : List Nat}
theorem hs_comp (hn : n ≤ 256) (ha : WF n A) (hb : WF n B) (p q : Nat) : hs (compL A B) p q ↔ ∃ m, hs A p m ∧ hs B m q := by
  unfold compL
  rw [ha.len, hb.len, Nat.max_self, hs_fill (Nat.le_refl _)]
  unfold joinRows
  rw [join_bits]
  constructor
  · rintro ⟨_, h | ⟨m, hm, h⟩⟩
    · simp at h
    · exact ⟨m, (mem_bitsOf.1 hm).2, h⟩
  · rintro ⟨m, h1, h2⟩
    refine ⟨by have := hs_left h1; rw [ha.len] at this; exact this, Or.inr ⟨m, mem_bitsOf.2 ⟨?_, h1⟩, h2⟩⟩
    have := ha.low _ _ h1
    omega
theorem wf_comp (hn : n ≤ 256) (ha : WF n A) (hb : WF n B) : WF n (compL A B) := by
  refine ⟨by unfold compL; rw [fillK_length, ha.len, hb.len, Nat.max_self], fun p q h => ?_⟩
  obtain ⟨m, _, h2⟩ := (hs_comp hn ha hb p q).1 h
  exact hb.low _ _ h2
theorem hs_zero (m p q : Nat) : ¬ hs (List.replicate m 0) p q := by
  intro h
  have hp := hs_left h
  rw [List.length_replicate] at hp
  unfold hs at h
  rw [gr_eq (R := 0) (by simp [hp])] at h
  simp at h
theorem hs_set {X : List Nat} {j R p q : Nat} : hs (X.set j R) p q ↔ if p = j ∧ j < X.length then R.testBit q = true else hs X p q := by
  unfold hs gr
  rw [List.getD_eq_getElem?_getD, List.getD_eq_getElem?_getD, List.getElem?_set]
  by_cases e : j = p
  · subst e
    by_cases hj : j < X.length
    · simp [hj]
    · simp [hj]
  · rw [if_neg e, if_neg (fun h => e h.1.symm)]
theorem hs_put {X : List Nat} {x y p q : Nat} (hx : x < X.length) (hy : y < X.length) : hs (putP X (x : Int) (y : Int) true) p q ↔ hs X p q ∨ (p = x ∧ q = y) := by
  rw [putP_nat hx hy (gr_of hx), hs_set]
  by_cases e : p = x
  · subst e
    rw [if_pos ⟨rfl, hx⟩, testBit_setB]
    by_cases e2 : q = y
    · subst e2; simp
    · rw [if_neg e2]
      constructor
      · exact fun h => Or.inl h
      · rintro (h | ⟨_, h⟩)
        · exact h
        · exact absurd h e2
  · rw [if_neg (fun h => e h.1)]
    constructor
    · exact fun h => Or.inl h
    · rintro (h | ⟨h, _⟩)
      · exact h
      · exact absurd h e
theorem putP_len (X : List Nat) (x y : Int) (v : Bool) : (putP X x y v).length = X.length := by
  unfold putP; split <;> simp
theorem invIn_len (p : Nat) : ∀ (l : List Nat) (X : List Nat), (invIn X p l).length = X.length
  | [], _ => rfl
  | q :: l, X => by
    show (invIn (putP X q p true) p l).length = _
    rw [invIn_len p l, putP_len]
theorem hs_invIn {p : Nat} : ∀ (l : List Nat) (X : List Nat), p < X.length → (∀ q ∈ l, q < X.length) → ∀ a b, hs (invIn X p l) a b ↔ hs X a b ∨ (b = p ∧ a ∈ l)
  | [], X, _, _, a, b => by simp [invIn]
  | q :: l, X, hp, hq, a, b => by
    show hs (invIn (putP X q p true) p l) a b ↔ _
    rw [hs_invIn l _ (by rw [putP_len]; exact hp) (fun r hr => by rw [putP_len]; exact hq r (List.mem_cons_of_mem _ hr)), hs_put (hq q (by simp)) hp]
    constructor
    · rintro ((h | ⟨rfl, rfl⟩) | ⟨rfl, h⟩)
      · exact Or.inl h
      · exact Or.inr ⟨rfl, by simp⟩
      · exact Or.inr ⟨rfl, List.mem_cons_of_mem _ h⟩
    · rintro (h | ⟨rfl, h⟩)
      · exact Or.inl (Or.inl h)
      · rcases List.mem_cons.1 h with rfl | h
        · exact Or.inl (Or.inr ⟨rfl, rfl⟩)
        · exact Or.inr ⟨rfl, h⟩
theorem invK_len (L : List Nat) (k : Nat) : (invK L k).length = L.length := by
  induction k with
  | zero => simp [invK]
  | succ k ih => rw [invK_succ, invIn_len, ih]
theorem hs_invK (hn : n ≤ 256) (ha : WF n A) (k : Nat) (hk : k ≤ n) (a b : Nat) : hs (invK A k) a b ↔ hs A b a ∧ b < k := by
  induction k generalizing a b with
  | zero =>
    constructor
    · intro h; exact absurd h (by simpa [invK] using hs_zero _ a b)
    · intro h; omega
  | succ k ih =>
    rw [invK_succ, hs_invIn _ _ (by rw [invK_len, ha.len]; omega) (fun q hq => by rw [invK_len, ha.len]; exact ha.low _ _ (mem_bitsOf.1 hq).2), ih (by omega)]
    constructor
    · rintro (⟨h1, h2⟩ | ⟨rfl, h⟩)
      · exact ⟨h1, by omega⟩
      · exact ⟨(mem_bitsOf.1 h).2, by omega⟩
    · rintro ⟨h1, h2⟩
      by_cases e : b = k
      · subst e
        exact Or.inr ⟨rfl, mem_bitsOf.2 ⟨by have := ha.low _ _ h1; omega, h1⟩⟩
      · exact Or.inl ⟨h1, by omega⟩
theorem hs_inv (hn : n ≤ 256) (ha : WF n A) (a b : Nat) : hs (invL A) a b ↔ hs A b a := by
  unfold invL
  rw [ha.len, hs_invK hn ha n (Nat.le_refl _)]
  constructor
  · exact fun h => h.1
  · exact fun h => ⟨h, by have := hs_left h; rw [ha.len] at this; exact this⟩
theorem wf_inv (hn : n ≤ 256) (ha : WF n A) : WF n (invL A) := by
  refine ⟨by unfold invL; rw [invK_len, ha.len], fun p q h => ?_⟩
  have := hs_left ((hs_inv hn ha p q).1 h)
  rw [ha.len] at this
  exact this
end
end Go.Proofs.YthiijcappjaagaaGreatDoor
