/- How a relation of the document's own answer (a table of truths) lies in memory. -/
import Derived.Test.YthiijcappjaagaaGreatDoorJ10
import Derived.Test.YthiijcappjaagaaGreatDoorRoundAny
import Derived.Maps.AppendAt
import Derived.Test.YthiijcappjaagaaGreatDoorJ09
namespace Go.Proofs.YthiijcappjaagaaGreatDoor
open Go.RowKit Go.Shelf Sx
def rowL (n : Nat) (f : Nat → Bool) : List Bool := (List.range n).map f
abbrev hdr (n r : Nat) : Value := .slice (some ⟨r, 0, none⟩) n n
def upd (F : Nat → Nat → Bool) (p q : Nat) (b : Bool) : Nat → Nat → Bool := fun x y => if x = p ∧ y = q then b else F x y
theorem rowL_congr {n : Nat} {f g : Nat → Bool} (h : ∀ q, q < n → f q = g q) : rowL n f = rowL n g := by
  unfold rowL
  exact List.map_congr_left fun q hq => h q (List.mem_range.1 hq)
theorem rowL_set {n q : Nat} {f : Nat → Bool} (b : Bool) (h : q < n) : (arrB (rowL n f)).setIfInBounds q (.bool b) = arrB (rowL n (fun y => if y = q then b else f y)) := by
  rw [arrB_set]
  congr 1
  apply List.ext_getElem?
  intro i
  rw [List.getElem?_set]
  by_cases e : q = i
  · subst e; simp [rowL, h]
  · rw [if_neg e]
    by_cases hi : i < n
    · simp [rowL, hi]
      intro h2
      exact absurd h2.symm e
    · rw [List.getElem?_eq_none (by simp [rowL]; omega), List.getElem?_eq_none (by simp [rowL]; omega)]
structure RefM (lo : Nat) (w : World) (M : Value) (k n : Nat) (rb : Nat → Nat) (F : Nat → Nat → Bool) : Prop where
  own : w.ownsRow lo 34 1 M k ((List.range k).map (fun p => hdr n (rb p)))
  row : ∀ p, p < k → lo ≤ rb p ∧ Blk w (rb p) 4 (arrB (rowL n (F p)))
  apart : ∀ p, p < k → M.ownBlock ≠ some (rb p)
  inj : ∀ p q, p < k → q < k → rb p = rb q → p = q
theorem RefM.below {lo : Nat} {w w' : World} {M : Value} {k n : Nat} {rb : Nat → Nat} {F : Nat → Nat → Bool} (h : RefM lo w M k n rb F) (hB : Below w.heap.size w w') : RefM lo w' M k n rb F := by
  refine ⟨?_, fun p hp => ⟨(h.row p hp).1, (h.row p hp).2.of_below hB⟩, h.apart, h.inj⟩
  obtain ⟨h1, h2⟩ := h.own
  refine ⟨h1, ?_⟩
  rcases h2 with h2 | ⟨g, cap, cur, e1, e2, e3, e4⟩
  · exact .inl h2
  · exact .inr ⟨g, cap, cur, e1, e2, (hB.block g (Array.getElem?_eq_some_iff.1 e3).1).trans e3, e4⟩
theorem RefM.below' {lo : Nat} {w w' : World} {M : Value} {k n : Nat} {rb : Nat → Nat} {F : Nat → Nat → Bool} (h : RefM lo w M k n rb F) (hk : ∀ x, lo ≤ x → x < w.heap.size → w'.heap[x]? = w.heap[x]?) : RefM lo w' M k n rb F := by
  refine ⟨?_, fun p hp => ⟨(h.row p hp).1, (hk _ (h.row p hp).1 (h.row p hp).2.lt).trans (h.row p hp).2⟩, h.apart, h.inj⟩
  obtain ⟨h1, h2⟩ := h.own
  refine ⟨h1, ?_⟩
  rcases h2 with h2 | ⟨g, cap, cur, e1, e2, e3, e4⟩
  · exact .inl h2
  · exact .inr ⟨g, cap, cur, e1, e2, (hk g e2 (Array.getElem?_eq_some_iff.1 e3).1).trans e3, e4⟩
theorem RefM.mono {lo lo' : Nat} {w : World} {M : Value} {k n : Nat} {rb : Nat → Nat} {F : Nat → Nat → Bool} (h : RefM lo w M k n rb F) (hl : lo' ≤ lo) : RefM lo' w M k n rb F := by
  refine ⟨?_, fun p hp => ⟨Nat.le_trans hl (h.row p hp).1, (h.row p hp).2⟩, h.apart, h.inj⟩
  obtain ⟨h1, h2⟩ := h.own
  refine ⟨h1, ?_⟩
  rcases h2 with h2 | ⟨g, cap, cur, e1, e2, e3⟩
  · exact .inl h2
  · exact .inr ⟨g, cap, cur, e1, Nat.le_trans hl e2, e3⟩
theorem RefM.alloc {lo : Nat} {w : World} {M : Value} {k n : Nat} {rb : Nat → Nat} {F : Nat → Nat → Bool} (h : RefM lo w M k n rb F) (o : Obj) : RefM lo (w.alloc o) M k n rb F := h.below ((Below.refl _ _).alloc (Nat.le_refl _) _)
theorem RefM.drew {lo : Nat} {w : World} {M : Value} {k n : Nat} {rb : Nat → Nat} {F : Nat → Nat → Bool} (h : RefM lo w M k n rb F) : RefM lo w.drew M k n rb F := h.below (Below.refl _ _).drew
theorem RefM.drewN {lo : Nat} {w : World} {M : Value} {k n : Nat} {rb : Nat → Nat} {F : Nat → Nat → Bool} (h : RefM lo w M k n rb F) (m : Nat) : RefM lo (w.drewN m) M k n rb F := h.below (below_drewN (Below.refl _ _) m)
theorem RefM.put {lo : Nat} {w : World} {M : Value} {k n : Nat} {rb : Nat → Nat} {F : Nat → Nat → Bool} (h : RefM lo w M k n rb F) {p q : Nat} (hp : p < k) (hq : q < n) (b : Bool) :
    RefM lo (w.setCell ⟨rb p, q, none⟩ (.bool b)) M k n rb (upd F p q b) := by
  refine ⟨?_, fun x hx => ⟨(h.row x hx).1, ?_⟩, h.apart, h.inj⟩
  · obtain ⟨h1, h2⟩ := h.own
    refine ⟨h1, ?_⟩
    rcases h2 with h2 | ⟨g, cap, cur, e1, e2, e3, e4⟩
    · exact .inl h2
    · have hg : g ≠ rb p := fun e => h.apart p hp (by rw [e1, ← e]; rfl)
      exact .inr ⟨g, cap, cur, e1, e2, (Below.heap_setCell w ⟨rb p, q, none⟩ (.bool b) g hg).trans e3, e4⟩
  · by_cases e : x = p
    · subst e
      have := (h.row x hx).2.set q (.bool b)
      rw [rowL_set b hq] at this
      have e2 : (fun y => if y = q then b else F x y) = upd F x q b x := by
        funext y
        unfold upd
        simp
      rwa [e2] at this
    · have e2 : upd F p q b x = F x := by
        funext y
        unfold upd
        simp [e]
      rw [e2]
      exact (h.row x hx).2.setOther (fun h2 => e (h.inj x p hx hp h2)) _
theorem RefM.slice {lo : Nat} {w : World} {M : Value} {k n : Nat} {rb : Nat → Nat} {F : Nat → Nat → Bool} (h : RefM lo w M k n rb F) : ∃ x y z, M = .slice x y z := by
  rcases h.own.2 with ⟨e, _⟩ | ⟨g, cap, cur, e, _⟩
  · exact ⟨_, _, _, e⟩
  · exact ⟨_, _, _, e⟩
theorem RefM.congr {lo : Nat} {w : World} {M : Value} {k n : Nat} {rb : Nat → Nat} {F G : Nat → Nat → Bool} (h : RefM lo w M k n rb F) (hfg : ∀ p q, p < k → q < n → F p q = G p q) : RefM lo w M k n rb G :=
  ⟨h.own, fun p hp => ⟨(h.row p hp).1, by rw [← rowL_congr (fun q hq => hfg p q hp hq)]; exact (h.row p hp).2⟩, h.apart, h.inj⟩
theorem RefM.nil (lo : Nat) (w : World) (n : Nat) (rb : Nat → Nat) (F : Nat → Nat → Bool) : RefM lo w (.slice none 0 0) 0 n rb F :=
  ⟨World.ownsRow_nil _ _ _ _, fun p hp => by omega, fun p hp => by omega, fun p q hp => by omega⟩
theorem RefM.more {lo : Nat} {w w' : World} {M M' : Value} {k n r : Nat} {rb : Nat → Nat} {F : Nat → Nat → Bool} (h : RefM lo w M k n rb F) (hr : Blk w r 4 (arrB (rowL n (F k)))) (hlo : lo ≤ r) (hnew : ∀ p, p < k → rb p ≠ r) (hM : M.ownBlock ≠ some r)
    (hown : w'.ownsRow lo 34 1 M' (k + 1) ((List.range k).map (fun p => hdr n (rb p)) ++ [hdr n r])) (hg : w.grownBy w' M.ownBlock) (hat : M'.ownBlock = M.ownBlock ∨ ∃ g, M'.ownBlock = some g ∧ w.heap.size ≤ g) :
    RefM lo w' M' (k + 1) n (fun p => if p = k then r else rb p) F := by
  have hkeep : ∀ (x : Nat) (cs : Array Value), Blk w x 4 cs → M.ownBlock ≠ some x → Blk w' x 4 cs := fun x cs hb hx => (hg.block x hb.lt (fun e => hx e.symm)).trans hb
  refine ⟨?_, ?_, ?_, ?_⟩
  · have e : (List.range (k + 1)).map (fun p => hdr n (if p = k then r else rb p)) = (List.range k).map (fun p => hdr n (rb p)) ++ [hdr n r] := by
      rw [List.range_succ, List.map_append]
      congr 1
      · apply List.map_congr_left
        intro p hp
        have := List.mem_range.1 hp
        rw [if_neg (by omega)]
      · simp
    rw [e]
    exact hown
  · intro p hp
    by_cases e : p = k
    · subst e
      rw [if_pos rfl]
      exact ⟨hlo, hkeep r _ hr hM⟩
    · rw [if_neg e]
      exact ⟨(h.row p (by omega)).1, hkeep _ _ (h.row p (by omega)).2 (h.apart p (by omega))⟩
  · intro p hp
    have hb : M.ownBlock ≠ some (if p = k then r else rb p) ∧ (if p = k then r else rb p) < w.heap.size := by
      by_cases e : p = k
      · rw [if_pos e]; exact ⟨hM, hr.lt⟩
      · rw [if_neg e]; exact ⟨h.apart p (by omega), (h.row p (by omega)).2.lt⟩
    rcases hat with hat | ⟨g, e1, e2⟩
    · rw [hat]; exact hb.1
    · rw [e1]
      intro e
      have := Option.some.inj e
      omega
  · intro p q hp hq he
    by_cases e1 : p = k <;> by_cases e2 : q = k
    · omega
    · rw [if_pos e1, if_neg e2] at he
      exact absurd he.symm (hnew q (by omega))
    · rw [if_neg e1, if_pos e2] at he
      exact absurd he (hnew p (by omega))
    · rw [if_neg e1, if_neg e2] at he
      exact h.inj p q (by omega) (by omega) he
end Go.Proofs.YthiijcappjaagaaGreatDoor
namespace Go.Proofs.YthiijcappjaagaaGreatDoor
open Go.RowKit Go.Shelf Sx
structure RefMid (w W : World) (M : Value) (k n : Nat) (rb : Nat → Nat) : Prop where
  below : Below w.heap.size w W
  res : Blk W w.heap.size 87 #[.int .i64 0, .slice none 0 0]
  box : Blk W (w.heap.size + 1) 87 #[.int .i64 ((n : Nat) : Int), M]
  ref : RefM (w.heap.size + 2) W M k n rb (fun _ _ => false)
theorem RefMid.kept {w W W' : World} {M : Value} {k n : Nat} {rb : Nat → Nat} (h : RefMid w W M k n rb)
    (hg : ((W.drew.alloc (.cells (arrB (List.replicate n false)) 4)).alloc (.cells #[hdr n W.heap.size] 34)).grownBy W' M.ownBlock) : Blk W' (w.heap.size + 1) 87 #[.int .i64 ((n : Nat) : Int), M] :=
  (hg.block _ (by have := h.box.lt; simp; omega) (fun e => by have := (h.ref.own.lt _ e.symm).1; omega)).trans ((h.box.drew.alloc _).alloc _)
end Go.Proofs.YthiijcappjaagaaGreatDoor
namespace Go.Proofs.YthiijcappjaagaaGreatDoor
open Go.RowKit Go.Shelf Sx
def plusRow (A : List Nat) (via p : Nat) : List Nat := if (gr A p).testBit via then A.set p (gr A p ||| gr A via) else A
def plusVia (A : List Nat) (via k : Nat) : List Nat := (List.range k).foldl (fun A p => plusRow A via p) A
def plusN (L : List Nat) (k : Nat) : List Nat := (List.range k).foldl (fun A via => plusVia A via L.length) L
def plusL (L : List Nat) : List Nat := plusN L L.length
theorem plusRow_length (A : List Nat) (via p : Nat) : (plusRow A via p).length = A.length := by unfold plusRow; split <;> simp
theorem plusVia_succ (A : List Nat) (via k : Nat) : plusVia A via (k + 1) = plusRow (plusVia A via k) via k := by simp [plusVia, List.range_succ]
theorem plusN_succ (L : List Nat) (k : Nat) : plusN L (k + 1) = plusVia (plusN L k) k L.length := by simp [plusN, List.range_succ]
theorem plusVia_length (A : List Nat) (via k : Nat) : (plusVia A via k).length = A.length := by
  induction k with
  | zero => rfl
  | succ k ih => rw [plusVia_succ, plusRow_length, ih]
theorem plusN_length (L : List Nat) (k : Nat) : (plusN L k).length = L.length := by
  induction k with
  | zero => rfl
  | succ k ih => rw [plusN_succ, plusVia_length, ih]
set_option maxRecDepth 100000 in
set_option maxHeartbeats 40000000 in
theorem Plus_calls (ba ca : Nat) (L : List Nat) (w : World) (h : IsRel w ba ca L) :
    Calls Tryz.prog 79 #[pv ba] w fun e w' => ∃ b c, e = .returned (pv b) ∧ Made w w' b c (plusL L) := by
  have hl := h.len
  go_enter Tryz.func79, Tryz.ntmps79
  go_wp2_with fail
  refine (Copy_calls ba ca L _ h).mono ?_
  rintro e w1 ⟨b, c, rfl, hM1⟩
  have hh := hM1.rel.hcell
  go_wp2_with fail
  clear hh h
  go_loopw [13] (fun i wr => ∃ k : Nat, k ≤ L.length ∧ i = .int .i64 k ∧ Made w wr b c (plusN L k)) (fun i _ => L.length - (intOf i).toNat)
  case atStart => exact ⟨0, by omega, rfl, hM1⟩
  case round =>
    clear hM1
    obtain ⟨k, hk, rfl, hM⟩ := hrel
    by_cases hlt : k < L.length
    · have HE : Hid (_ = _) := plusN_succ L k
      have hlA := plusN_length L k
      generalize plusN L k = A at *
      have hh := hM.rel.hcell
      rw [hlA] at hh
      have HA : Hid (A.length = L.length) := hlA
      clear hlA
      go_wp2_with fail
      clear hh
      go_loopw [21] (fun i wr => ∃ p : Nat, p ≤ L.length ∧ i = .int .i64 p ∧ Made w wr b c (plusVia A k p)) (fun i _ => L.length - (intOf i).toNat)
      case atStart => exact ⟨0, by omega, rfl, hM⟩
      case round =>
        clear hM
        obtain ⟨p, hp, rfl, hM⟩ := hrel
        by_cases hlt2 : p < L.length
        · have HE2 : Hid (_ = _) := plusVia_succ A k p
          have hlB : (plusVia A k p).length = L.length := by rw [plusVia_length, HA.out]
          generalize plusVia A k p = B at *
          have hpB : p < B.length := by omega
          have hkB : k < B.length := by omega
          obtain ⟨y, ⟨y0, y1, y2, y3⟩, _, q1, q2⟩ := hM.rel.slots (gr_of hpB)
          have HlB : Hid (B.length = L.length) := hlB
          clear hlB
          have hp256 : p < 256 := by omega
          go_wp2_with fail
          refine (has_calls (gr B p) k (by omega) _).mono ?_
          rintro e w2 ⟨rfl, hB2⟩
          have hM2 := hM.step hB2
          clear y y0 y1 y2 y3 q1 q2 hM hB2
          cases hbit : (gr B p).testBit k
          · have HF : Hid (plusRow B k p = B) := by show _ = _; simp [plusRow, hbit]
            go_wp2_with fail
            refine ⟨⟨p + 1, by omega, by go_num, ?_⟩, by simp [intOf]; omega⟩
            rw [HE2.out, HF.out]
            exact hM2
          · have HF : Hid (plusRow B k p = B.set p (gr B p ||| gr B k)) := by show _ = _; simp [plusRow, hbit]
            have HR : Hid (gr B p ||| gr B k < 2 ^ B.length) := or_lt (hM2.rel.gr_lt p) (hM2.rel.gr_lt k)
            clear hbit
            have hg := gr_of hpB
            have HG : Hid (B[p]? = some (gr B p)) := hg
            obtain ⟨y, ⟨y0, y1, y2, y3⟩, _, q1, q2⟩ := hM2.rel.slots hg
            obtain ⟨v0, v1, v2, v3⟩ := hM2.rel.cells (gr_of hkB)
            clear hg
            go_wp2_with fail
            clear hlt hk hp
            refine wp_region_held_drew (S := fun w' => w'.cell? ⟨b, 0, none⟩ = some (.slice (some ⟨c, 0, none⟩) B.length B.length)) (by kernel_rfl) y (fun hHeld => ?_)
            refine wpAnyH_take (i := 0) (v := pv b) rfl (by kernel_rfl) (by kernel_rfl) (by kernel_rfl) (fun _ _ _ h => h) (Or.inl ⟨by rfl, ?_⟩) hHeld ?_
            · intro w' hSw
              clear hHeld
              clear y y0 y1 y2 y3 v0 v1 v2 v3
              simp only [List.getElem_toArray, List.getElem_cons_zero]
              go_simp
            simp only [Act.put, List.getElem_toArray, List.getElem_cons_zero, List.setIfInBounds_toArray, List.set_cons_zero, List.set_cons_succ]
            refine wpAnyH_take (i := 1) (v := pv b) rfl (by kernel_rfl) (by kernel_rfl) (by kernel_rfl) (fun _ _ _ h => h) (Or.inl ⟨by rfl, ?_⟩) hHeld ?_
            · intro w' hSw
              clear hHeld
              clear y y0 y1 y2 y3 v0 v1 v2 v3
              simp only [List.getElem_toArray, List.getElem_cons_zero, List.getElem_cons_succ]
              go_simp
            simp only [Act.put, List.getElem_toArray, List.getElem_cons_zero, List.getElem_cons_succ, List.setIfInBounds_toArray, List.set_cons_zero, List.set_cons_succ]
            refine wpAnyH_take (i := 2) (v := pv b) rfl (by kernel_rfl) (by kernel_rfl) (by kernel_rfl) (fun _ _ _ h => h) (Or.inl ⟨by rfl, ?_⟩) hHeld ?_
            · intro w' hSw
              clear hHeld
              clear y y0 y1 y2 y3 v0 v1 v2 v3
              simp only [List.getElem_toArray, List.getElem_cons_zero, List.getElem_cons_succ]
              go_simp
            simp only [Act.put, List.getElem_toArray, List.getElem_cons_zero, List.getElem_cons_succ, List.setIfInBounds_toArray, List.set_cons_zero, List.set_cons_succ]
            refine wpAnyH_take (i := 3) (v := .slice (some ⟨c, 0, none⟩) B.length B.length) rfl (by kernel_rfl) (by kernel_rfl) (by kernel_rfl) (fun _ _ _ h => h) (Or.inl ⟨by rfl, ?_⟩) hHeld ?_
            · intro w' hSw
              clear hHeld
              clear y y0 y1 y2 y3 v0 v1 v2 v3
              simp only [List.getElem_toArray, List.getElem_cons_zero, List.getElem_cons_succ]
              go_simp
            simp only [Act.put, List.getElem_toArray, List.getElem_cons_zero, List.getElem_cons_succ, List.setIfInBounds_toArray, List.set_cons_zero, List.set_cons_succ]
            refine wpAnyH_take (i := 4) (v := .int .i64 ((p : Nat) : Int)) rfl (by kernel_rfl) (by kernel_rfl) (by kernel_rfl) (fun _ _ _ h => h) (Or.inl ⟨by rfl, ?_⟩) hHeld ?_
            · intro w' hSw
              clear hHeld
              clear y y0 y1 y2 y3 v0 v1 v2 v3
              simp only [List.getElem_toArray, List.getElem_cons_zero, List.getElem_cons_succ]
              go_simp
            simp only [Act.put, List.getElem_toArray, List.getElem_cons_zero, List.getElem_cons_succ, List.setIfInBounds_toArray, List.set_cons_zero, List.set_cons_succ]
            refine wpAnyH_take (i := 5) (v := pv b) rfl (by kernel_rfl) (by kernel_rfl) (by kernel_rfl) (fun _ _ _ h => h) (Or.inl ⟨by rfl, ?_⟩) hHeld ?_
            · intro w' hSw
              clear hHeld
              clear y y0 y1 y2 y3 v0 v1 v2 v3
              simp only [List.getElem_toArray, List.getElem_cons_zero, List.getElem_cons_succ]
              go_simp
            simp only [Act.put, List.getElem_toArray, List.getElem_cons_zero, List.getElem_cons_succ, List.setIfInBounds_toArray, List.set_cons_zero, List.set_cons_succ]
            refine wpAnyH_take (i := 6) (v := pv b) rfl (by kernel_rfl) (by kernel_rfl) (by kernel_rfl) (fun _ _ _ h => h) (Or.inl ⟨by rfl, ?_⟩) hHeld ?_
            · intro w' hSw
              clear hHeld
              clear y y0 y1 y2 y3 v0 v1 v2 v3
              simp only [List.getElem_toArray, List.getElem_cons_zero, List.getElem_cons_succ]
              go_simp
            simp only [Act.put, List.getElem_toArray, List.getElem_cons_zero, List.getElem_cons_succ, List.setIfInBounds_toArray, List.set_cons_zero, List.set_cons_succ]
            refine wpAnyH_take (i := 7) (v := pv b) rfl (by kernel_rfl) (by kernel_rfl) (by kernel_rfl) (fun _ _ _ h => h) (Or.inl ⟨by rfl, ?_⟩) hHeld ?_
            · intro w' hSw
              clear hHeld
              clear y y0 y1 y2 y3 v0 v1 v2 v3
              simp only [List.getElem_toArray, List.getElem_cons_zero, List.getElem_cons_succ]
              go_simp
            simp only [Act.put, List.getElem_toArray, List.getElem_cons_zero, List.getElem_cons_succ, List.setIfInBounds_toArray, List.set_cons_zero, List.set_cons_succ]
            refine wpAnyH_take (i := 8) (v := .slice (some ⟨c, 0, none⟩) B.length B.length) rfl (by kernel_rfl) (by kernel_rfl) (by kernel_rfl) (fun _ _ _ h => h) (Or.inl ⟨by rfl, ?_⟩) hHeld ?_
            · intro w' hSw
              clear hHeld
              clear y y0 y1 y2 y3 v0 v1 v2 v3
              simp only [List.getElem_toArray, List.getElem_cons_zero, List.getElem_cons_succ]
              go_simp
            simp only [Act.put, List.getElem_toArray, List.getElem_cons_zero, List.getElem_cons_succ, List.setIfInBounds_toArray, List.set_cons_zero, List.set_cons_succ]
            refine wpAnyH_take (i := 9) (v := .int .i64 ((p : Nat) : Int)) rfl (by kernel_rfl) (by kernel_rfl) (by kernel_rfl) (fun _ _ _ h => h) (Or.inl ⟨by rfl, ?_⟩) hHeld ?_
            · intro w' hSw
              clear hHeld
              clear y y0 y1 y2 y3 v0 v1 v2 v3
              simp only [List.getElem_toArray, List.getElem_cons_zero, List.getElem_cons_succ]
              go_simp
            simp only [Act.put, List.getElem_toArray, List.getElem_cons_zero, List.getElem_cons_succ, List.setIfInBounds_toArray, List.set_cons_zero, List.set_cons_succ]
            refine wpAnyH_take (i := 10) (v := .pointer (some ⟨c, p * 4, none⟩)) rfl (by kernel_rfl) (by kernel_rfl) (by kernel_rfl) (fun _ _ _ h => h) (Or.inl ⟨by rfl, ?_⟩) hHeld ?_
            · intro w' hSw
              clear hHeld
              clear y y0 y1 y2 y3 v0 v1 v2 v3
              simp only [List.getElem_toArray, List.getElem_cons_zero, List.getElem_cons_succ]
              go_simp
            simp only [Act.put, List.getElem_toArray, List.getElem_cons_zero, List.getElem_cons_succ, List.setIfInBounds_toArray, List.set_cons_zero, List.set_cons_succ]
            refine wpAnyH_take (i := 12) (v := pv b) rfl (by kernel_rfl) (by kernel_rfl) (by kernel_rfl) (fun _ _ _ h => h) (Or.inl ⟨by rfl, ?_⟩) hHeld ?_
            · intro w' hSw
              clear hHeld
              clear y y0 y1 y2 y3 v0 v1 v2 v3
              simp only [List.getElem_toArray, List.getElem_cons_zero, List.getElem_cons_succ]
              go_simp
            simp only [Act.put, List.getElem_toArray, List.getElem_cons_zero, List.getElem_cons_succ, List.setIfInBounds_toArray, List.set_cons_zero, List.set_cons_succ]
            refine wpAnyH_take (i := 13) (v := pv b) rfl (by kernel_rfl) (by kernel_rfl) (by kernel_rfl) (fun _ _ _ h => h) (Or.inl ⟨by rfl, ?_⟩) hHeld ?_
            · intro w' hSw
              clear hHeld
              clear y y0 y1 y2 y3 v0 v1 v2 v3
              simp only [List.getElem_toArray, List.getElem_cons_zero, List.getElem_cons_succ]
              go_simp
            simp only [Act.put, List.getElem_toArray, List.getElem_cons_zero, List.getElem_cons_succ, List.setIfInBounds_toArray, List.set_cons_zero, List.set_cons_succ]
            refine wpAnyH_take (i := 14) (v := pv b) rfl (by kernel_rfl) (by kernel_rfl) (by kernel_rfl) (fun _ _ _ h => h) (Or.inl ⟨by rfl, ?_⟩) hHeld ?_
            · intro w' hSw
              clear hHeld
              clear y y0 y1 y2 y3 v0 v1 v2 v3
              simp only [List.getElem_toArray, List.getElem_cons_zero, List.getElem_cons_succ]
              go_simp
            simp only [Act.put, List.getElem_toArray, List.getElem_cons_zero, List.getElem_cons_succ, List.setIfInBounds_toArray, List.set_cons_zero, List.set_cons_succ]
            refine wpAnyH_take (i := 15) (v := .slice (some ⟨c, 0, none⟩) B.length B.length) rfl (by kernel_rfl) (by kernel_rfl) (by kernel_rfl) (fun _ _ _ h => h) (Or.inl ⟨by rfl, ?_⟩) hHeld ?_
            · intro w' hSw
              clear hHeld
              clear y y0 y1 y2 y3 v0 v1 v2 v3
              simp only [List.getElem_toArray, List.getElem_cons_zero, List.getElem_cons_succ]
              go_simp
            simp only [Act.put, List.getElem_toArray, List.getElem_cons_zero, List.getElem_cons_succ, List.setIfInBounds_toArray, List.set_cons_zero, List.set_cons_succ]
            refine wpAnyH_take (i := 16) (v := .int .i64 ((k : Nat) : Int)) rfl (by kernel_rfl) (by kernel_rfl) (by kernel_rfl) (fun _ _ _ h => h) (Or.inl ⟨by rfl, ?_⟩) hHeld ?_
            · intro w' hSw
              clear hHeld
              clear y y0 y1 y2 y3 v0 v1 v2 v3
              simp only [List.getElem_toArray, List.getElem_cons_zero, List.getElem_cons_succ]
              go_simp
            simp only [Act.put, List.getElem_toArray, List.getElem_cons_zero, List.getElem_cons_succ, List.setIfInBounds_toArray, List.set_cons_zero, List.set_cons_succ]
            refine wpAnyH_take (i := 17) (v := .pointer (some ⟨c, k * 4, none⟩)) rfl (by kernel_rfl) (by kernel_rfl) (by kernel_rfl) (fun _ _ _ h => h) (Or.inl ⟨by rfl, ?_⟩) hHeld ?_
            · intro w' hSw
              clear hHeld
              clear y y0 y1 y2 y3 v0 v1 v2 v3
              simp only [List.getElem_toArray, List.getElem_cons_zero, List.getElem_cons_succ]
              go_simp
            simp only [Act.put, List.getElem_toArray, List.getElem_cons_zero, List.getElem_cons_succ, List.setIfInBounds_toArray, List.set_cons_zero, List.set_cons_succ]
            refine wpAnyH_ready (rs := [11, 18]) (by kernel_rfl) (by simp) ?_
            refine AllReadyH.cons rfl (fun K hK => ?_) ?_
            · simp only [List.getElem_toArray, List.getElem_cons_zero, List.getElem_cons_succ]
              go_simp
              refine hK.out _ _ hHeld (fun hHeld => ?_)
              clear hK K
              refine wpAnyH_ready (rs := [18]) (by kernel_rfl) (by simp) ?_
              refine AllReadyH.cons rfl (fun K hK => ?_) AllReadyH.nil
              simp only [List.getElem_toArray, List.getElem_cons_zero, List.getElem_cons_succ]
              go_simp
              refine hK.out _ _ hHeld (fun hHeld => ?_)
              clear hK K
              refine wpAnyH_ready (rs := [19]) (by kernel_rfl) (by simp) ?_
              refine AllReadyH.cons rfl (fun K hK => ?_) AllReadyH.nil
              simp only [List.getElem_toArray, List.getElem_cons_zero, List.getElem_cons_succ]
              go_simp
              have hM2a := (hM2.alloc (.cells #[.int .u64 ((wd (gr B p) 0 : Nat) : Int), .int .u64 ((wd (gr B p) 1 : Nat) : Int), .int .u64 ((wd (gr B p) 2 : Nat) : Int), .int .u64 ((wd (gr B p) 3 : Nat) : Int), .int .u64 ((wd (gr B k) 0 : Nat) : Int), .int .u64 ((wd (gr B k) 1 : Nat) : Int), .int .u64 ((wd (gr B k) 2 : Nat) : Int), .int .u64 ((wd (gr B k) 3 : Nat) : Int)] 96)).drew
              refine hK.out _ _ hM2a.rel.hcell (fun hHeld => ?_)
              clear hK K
              refine wpAnyH_ready (rs := [20]) (by kernel_rfl) (by simp) ?_
              refine AllReadyH.cons rfl (fun K hK => ?_) AllReadyH.nil
              simp only [List.getElem_toArray, List.getElem_cons_zero, List.getElem_cons_succ]
              go_simp
              go_at_call 106
              refine (join_calls (gr B p) (gr B k) _ _ (by rw [two_lit]; first | exact (Blk.new _ _ _).drew | exact Blk.new _ _ _)).mono ?_
              rintro e w3 ⟨rfl, hB3⟩
              have hM3 := hM2a.step hB3
              refine hK.out _ _ hM3.rel.hcell (fun hHeld => ?_)
              clear hK K y y0 y1 y2 y3 v0 v1 v2 v3
              refine wpAnyH_take (i := 21) (v := .pointer (some ⟨c, p * 4, none⟩)) rfl (by kernel_rfl) (by kernel_rfl) (by kernel_rfl) (fun _ _ _ h => h) (Or.inl ⟨by rfl, ?_⟩) hHeld ?_
              · intro w' hSw
                clear hHeld
                simp only [List.getElem_toArray, List.getElem_cons_zero, List.getElem_cons_succ]
                go_simp
              simp only [Act.put, List.getElem_toArray, List.getElem_cons_zero, List.getElem_cons_succ, List.setIfInBounds_toArray, List.set_cons_zero, List.set_cons_succ]
              refine wpAnyH_ready (rs := [22]) (by kernel_rfl) (by simp) ?_
              refine AllReadyH.cons rfl (fun K hK => ?_) AllReadyH.nil
              simp only [List.getElem_toArray, List.getElem_cons_zero, List.getElem_cons_succ]
              obtain ⟨z, ⟨z0, z1, z2, z3⟩, ⟨f0, f1, f2, f3⟩, q5, q6⟩ := hM3.rel.slots HG.out
              go_simp
              have hM5 := hM3.put hpB HR.out
              have hz5 := hM5.rel.hcell
              rw [List.length_set] at hz5
              refine hK.out _ _ hz5 (fun _ => ?_)
              clear hK K
              refine wpAnyH_done (by kernel_rfl) ?_ _
              clear hHeld z z0 z1 z2 z3 f0 f1 f2 f3 hz5
              go_wp2_with fail
              refine ⟨⟨p + 1, by omega, by go_num, ?_⟩, by simp [intOf]; omega⟩
              rw [HE2.out, HF.out]
              exact hM5
            · refine AllReadyH.cons rfl (fun K hK => ?_) AllReadyH.nil
              simp only [List.getElem_toArray, List.getElem_cons_zero, List.getElem_cons_succ]
              go_simp
              refine hK.out _ _ hHeld (fun hHeld => ?_)
              clear hK K
              refine wpAnyH_ready (rs := [11]) (by kernel_rfl) (by simp) ?_
              refine AllReadyH.cons rfl (fun K hK => ?_) AllReadyH.nil
              simp only [List.getElem_toArray, List.getElem_cons_zero, List.getElem_cons_succ]
              go_simp
              refine hK.out _ _ hHeld (fun hHeld => ?_)
              clear hK K
              refine wpAnyH_ready (rs := [19]) (by kernel_rfl) (by simp) ?_
              refine AllReadyH.cons rfl (fun K hK => ?_) AllReadyH.nil
              simp only [List.getElem_toArray, List.getElem_cons_zero, List.getElem_cons_succ]
              go_simp
              have hM2a := (hM2.alloc (.cells #[.int .u64 ((wd (gr B p) 0 : Nat) : Int), .int .u64 ((wd (gr B p) 1 : Nat) : Int), .int .u64 ((wd (gr B p) 2 : Nat) : Int), .int .u64 ((wd (gr B p) 3 : Nat) : Int), .int .u64 ((wd (gr B k) 0 : Nat) : Int), .int .u64 ((wd (gr B k) 1 : Nat) : Int), .int .u64 ((wd (gr B k) 2 : Nat) : Int), .int .u64 ((wd (gr B k) 3 : Nat) : Int)] 96)).drew
              refine hK.out _ _ hM2a.rel.hcell (fun hHeld => ?_)
              clear hK K
              refine wpAnyH_ready (rs := [20]) (by kernel_rfl) (by simp) ?_
              refine AllReadyH.cons rfl (fun K hK => ?_) AllReadyH.nil
              simp only [List.getElem_toArray, List.getElem_cons_zero, List.getElem_cons_succ]
              go_simp
              go_at_call 106
              refine (join_calls (gr B p) (gr B k) _ _ (by rw [two_lit]; first | exact (Blk.new _ _ _).drew | exact Blk.new _ _ _)).mono ?_
              rintro e w3 ⟨rfl, hB3⟩
              have hM3 := hM2a.step hB3
              refine hK.out _ _ hM3.rel.hcell (fun hHeld => ?_)
              clear hK K y y0 y1 y2 y3 v0 v1 v2 v3
              refine wpAnyH_take (i := 21) (v := .pointer (some ⟨c, p * 4, none⟩)) rfl (by kernel_rfl) (by kernel_rfl) (by kernel_rfl) (fun _ _ _ h => h) (Or.inl ⟨by rfl, ?_⟩) hHeld ?_
              · intro w' hSw
                clear hHeld
                simp only [List.getElem_toArray, List.getElem_cons_zero, List.getElem_cons_succ]
                go_simp
              simp only [Act.put, List.getElem_toArray, List.getElem_cons_zero, List.getElem_cons_succ, List.setIfInBounds_toArray, List.set_cons_zero, List.set_cons_succ]
              refine wpAnyH_ready (rs := [22]) (by kernel_rfl) (by simp) ?_
              refine AllReadyH.cons rfl (fun K hK => ?_) AllReadyH.nil
              simp only [List.getElem_toArray, List.getElem_cons_zero, List.getElem_cons_succ]
              obtain ⟨z, ⟨z0, z1, z2, z3⟩, ⟨f0, f1, f2, f3⟩, q5, q6⟩ := hM3.rel.slots HG.out
              go_simp
              have hM5 := hM3.put hpB HR.out
              have hz5 := hM5.rel.hcell
              rw [List.length_set] at hz5
              refine hK.out _ _ hz5 (fun _ => ?_)
              clear hK K
              refine wpAnyH_done (by kernel_rfl) ?_ _
              clear hHeld z z0 z1 z2 z3 f0 f1 f2 f3 hz5
              go_wp2_with fail
              refine ⟨⟨p + 1, by omega, by go_num, ?_⟩, by simp [intOf]; omega⟩
              rw [HE2.out, HF.out]
              exact hM5
        · obtain rfl : p = L.length := by omega
          go_wp2_with fail
          refine ⟨⟨k + 1, by omega, by go_num, ?_⟩, by simp [intOf]; omega⟩
          rw [HE.out]
          exact hM
    · obtain rfl : k = L.length := by omega
      go_wp2_with fail
      go_ret
      exact ⟨b, c, rfl, hM⟩
end Go.Proofs.YthiijcappjaagaaGreatDoor
namespace Go.Proofs.YthiijcappjaagaaGreatDoor
open Go.RowKit Go.Shelf Sx
theorem testBit_loopsK (L : List Nat) (k p : Nat) : (loopsK L k).testBit p = (decide (p < k) && (gr L p).testBit p) := by
  induction k with
  | zero => simp [loopsK]
  | succ k ih =>
    rw [loopsK_succ, testBit_setB, ih]
    by_cases h : p = k
    · subst h; simp
    · rw [if_neg h]
      by_cases h2 : p < k
      · rw [decide_eq_true h2, decide_eq_true (show p < k + 1 by omega)]
      · rw [decide_eq_false h2, decide_eq_false (show ¬ p < k + 1 by omega)]
theorem loopsL_lt (L : List Nat) : loopsL L < 2 ^ L.length := lt_pow_of_testBit fun i hi => by rw [loopsL, testBit_loopsK, decide_eq_false (by omega), Bool.false_and]
set_option maxHeartbeats 400000 in
theorem Irr_calls (b c : Nat) (L : List Nat) (w : World) (h : IsRel w b c L) :
    Calls Tryz.prog 78 #[pv b] w fun e w' => e = .returned (.bool (loopsL L == 0)) ∧ Below w.heap.size w w' := by
  have HL : Hid (loopsL L < 2 ^ 256) := Nat.lt_of_lt_of_le (loopsL_lt L) (Nat.pow_le_pow_right (by omega) h.len)
  go_enter Tryz.func78, Tryz.ntmps78
  go_wp2_with fail
  refine (loops_calls b c L _ h).mono ?_
  rintro e w1 ⟨rfl, hB1⟩
  go_wp2_with fail
  refine (empty_calls (loopsL L) HL _).mono ?_
  rintro e w2 ⟨rfl, hB2⟩
  go_wp2_with fail
  go_ret
  exact ⟨rfl, below_step hB1 hB1.size hB2⟩
end Go.Proofs.YthiijcappjaagaaGreatDoor
namespace Go.Proofs.YthiijcappjaagaaGreatDoor
open Go.RowKit Go.Shelf Sx Relation
def hs (L : List Nat) (p q : Nat) : Prop := (gr L p).testBit q = true
structure WF (n : Nat) (L : List Nat) : Prop where
  len : L.length = n
  low : ∀ p q, hs L p q → q < n
theorem hs_left {L : List Nat} {p q : Nat} (h : hs L p q) : p < L.length := by
  apply Nat.lt_of_not_le
  intro hle
  unfold hs at h
  rw [gr_not (by omega)] at h
  simp at h
theorem IsRel.wf {w : World} {b c : Nat} {L : List Nat} (h : IsRel w b c L) {n : Nat} (hn : L.length = n) : WF n L := by
  refine ⟨hn, fun p q hq => ?_⟩
  apply Nat.lt_of_not_le
  intro hle
  have h1 := testBit_of_lt (h.gr_lt p) (by omega : L.length ≤ q)
  unfold hs at hq
  rw [h1] at hq
  cases hq
theorem WF.ext {n : Nat} {A B : List Nat} (ha : WF n A) (hb : WF n B) (h : ∀ p q, hs A p q ↔ hs B p q) : A = B := by
  apply List.ext_getElem?
  intro p
  by_cases hp : p < n
  · rw [gr_of (by rw [ha.len]; exact hp), gr_of (by rw [hb.len]; exact hp)]
    congr 1
    apply Nat.eq_of_testBit_eq
    intro q
    rw [Bool.eq_iff_iff]
    exact h p q
  · rw [List.getElem?_eq_none (by rw [ha.len]; omega), List.getElem?_eq_none (by rw [hb.len]; omega)]
theorem join_bits (L : List Nat) (q : Nat) : ∀ (l : List Nat) (s : Nat), (l.foldl (fun s p => s ||| gr L p) s).testBit q = true ↔ s.testBit q = true ∨ ∃ p ∈ l, hs L p q
  | [], s => by simp
  | x :: l, s => by
    rw [List.foldl_cons, join_bits L q l, Nat.testBit_or, Bool.or_eq_true]
    unfold hs
    simp [or_assoc]
theorem hs_fill {n k : Nat} {f : Nat → Nat} {p q : Nat} (hk : n ≤ k) : hs (fillK n f k) p q ↔ p < n ∧ (f p).testBit q = true := by
  by_cases hp : p < n
  · unfold hs
    rw [gr_eq (fillK_at hp), if_pos (by omega)]
    simp [hp]
  · constructor
    · intro h
      have := hs_left h
      rw [fillK_length] at this
      omega
    · exact fun h => absurd h.1 hp
section
variable {n : Nat} {A B C : List Nat}
theorem hs_comp (hn : n ≤ 256) (ha : WF n A) (hb : WF n B) (p q : Nat) : hs (compL A B) p q ↔ ∃ m, hs A p m ∧ hs B m q := by
  unfold compL
  rw [ha.len, hb.len, Nat.max_self, hs_fill (Nat.le_refl _)]
  unfold joinRows
  rw [join_bits]
  constructor
  · rintro ⟨_, h | ⟨m, hm, h⟩⟩
    · simp at h
    · exact ⟨m, (mem_bitsOf.1 hm).2, h⟩
  · rintro ⟨m, h1, h2⟩
    refine ⟨by have := hs_left h1; rw [ha.len] at this; exact this, Or.inr ⟨m, mem_bitsOf.2 ⟨?_, h1⟩, h2⟩⟩
    have := ha.low _ _ h1
    omega
theorem wf_comp (hn : n ≤ 256) (ha : WF n A) (hb : WF n B) : WF n (compL A B) := by
  refine ⟨by unfold compL; rw [fillK_length, ha.len, hb.len, Nat.max_self], fun p q h => ?_⟩
  obtain ⟨m, _, h2⟩ := (hs_comp hn ha hb p q).1 h
  exact hb.low _ _ h2
theorem hs_minus (ha : WF n A) (hb : WF n B) (p q : Nat) : hs (minusL A B) p q ↔ hs A p q ∧ ¬ hs B p q := by
  unfold minusL
  rw [ha.len, hb.len, Nat.max_self, hs_fill (Nat.le_refl _), testBit_ldiff, Bool.and_eq_true, Bool.not_eq_true']
  unfold hs
  rw [Bool.not_eq_true]
  constructor
  · exact fun h => h.2
  · exact fun h => ⟨by have := hs_left (L := A) h.1; rw [ha.len] at this; exact this, h⟩
theorem wf_minus (ha : WF n A) (hb : WF n B) : WF n (minusL A B) := by
  refine ⟨by unfold minusL; rw [fillK_length, ha.len, hb.len, Nat.max_self], fun p q h => ?_⟩
  exact ha.low _ _ ((hs_minus ha hb p q).1 h).1
theorem hs_zero (m p q : Nat) : ¬ hs (List.replicate m 0) p q := by
  intro h
  have hp := hs_left h
  rw [List.length_replicate] at hp
  unfold hs at h
  rw [gr_eq (R := 0) (by simp [hp])] at h
  simp at h
theorem hs_set {X : List Nat} {j R p q : Nat} : hs (X.set j R) p q ↔ if p = j ∧ j < X.length then R.testBit q = true else hs X p q := by
  unfold hs gr
  rw [List.getD_eq_getElem?_getD, List.getD_eq_getElem?_getD, List.getElem?_set]
  by_cases e : j = p
  · subst e
    by_cases hj : j < X.length
    · simp [hj]
    · simp [hj]
  · rw [if_neg e, if_neg (fun h => e h.1.symm)]
theorem hs_put {X : List Nat} {x y p q : Nat} (hx : x < X.length) (hy : y < X.length) : hs (putP X (x : Int) (y : Int) true) p q ↔ hs X p q ∨ (p = x ∧ q = y) := by
  rw [putP_nat hx hy (gr_of hx), hs_set]
  by_cases e : p = x
  · subst e
    rw [if_pos ⟨rfl, hx⟩, testBit_setB]
    by_cases e2 : q = y
    · subst e2; simp
    · rw [if_neg e2]
      constructor
      · exact fun h => Or.inl h
      · rintro (h | ⟨_, h⟩)
        · exact h
        · exact absurd h e2
  · rw [if_neg (fun h => e h.1)]
    constructor
    · exact fun h => Or.inl h
    · rintro (h | ⟨h, _⟩)
      · exact h
      · exact absurd h e
theorem putP_len (X : List Nat) (x y : Int) (v : Bool) : (putP X x y v).length = X.length := by
  unfold putP; split <;> simp
theorem invIn_len (p : Nat) : ∀ (l : List Nat) (X : List Nat), (invIn X p l).length = X.length
  | [], _ => rfl
  | q :: l, X => by
    show (invIn (putP X q p true) p l).length = _
    rw [invIn_len p l, putP_len]
theorem hs_invIn {p : Nat} : ∀ (l : List Nat) (X : List Nat), p < X.length → (∀ q ∈ l, q < X.length) → ∀ a b, hs (invIn X p l) a b ↔ hs X a b ∨ (b = p ∧ a ∈ l)
  | [], X, _, _, a, b => by simp [invIn]
  | q :: l, X, hp, hq, a, b => by
    show hs (invIn (putP X q p true) p l) a b ↔ _
    rw [hs_invIn l _ (by rw [putP_len]; exact hp) (fun r hr => by rw [putP_len]; exact hq r (List.mem_cons_of_mem _ hr)), hs_put (hq q (by simp)) hp]
    constructor
    · rintro ((h | ⟨rfl, rfl⟩) | ⟨rfl, h⟩)
      · exact Or.inl h
      · exact Or.inr ⟨rfl, by simp⟩
      · exact Or.inr ⟨rfl, List.mem_cons_of_mem _ h⟩
    · rintro (h | ⟨rfl, h⟩)
      · exact Or.inl (Or.inl h)
      · rcases List.mem_cons.1 h with rfl | h
        · exact Or.inl (Or.inr ⟨rfl, rfl⟩)
        · exact Or.inr ⟨rfl, h⟩
theorem invK_len (L : List Nat) (k : Nat) : (invK L k).length = L.length := by
  induction k with
  | zero => simp [invK]
  | succ k ih => rw [invK_succ, invIn_len, ih]
theorem hs_invK (hn : n ≤ 256) (ha : WF n A) (k : Nat) (hk : k ≤ n) (a b : Nat) : hs (invK A k) a b ↔ hs A b a ∧ b < k := by
  induction k generalizing a b with
  | zero =>
    constructor
    · intro h; exact absurd h (by simpa [invK] using hs_zero _ a b)
    · intro h; omega
  | succ k ih =>
    rw [invK_succ, hs_invIn _ _ (by rw [invK_len, ha.len]; omega) (fun q hq => by rw [invK_len, ha.len]; exact ha.low _ _ (mem_bitsOf.1 hq).2), ih (by omega)]
    constructor
    · rintro (⟨h1, h2⟩ | ⟨rfl, h⟩)
      · exact ⟨h1, by omega⟩
      · exact ⟨(mem_bitsOf.1 h).2, by omega⟩
    · rintro ⟨h1, h2⟩
      by_cases e : b = k
      · subst e
        exact Or.inr ⟨rfl, mem_bitsOf.2 ⟨by have := ha.low _ _ h1; omega, h1⟩⟩
      · exact Or.inl ⟨h1, by omega⟩
theorem hs_inv (hn : n ≤ 256) (ha : WF n A) (a b : Nat) : hs (invL A) a b ↔ hs A b a := by
  unfold invL
  rw [ha.len, hs_invK hn ha n (Nat.le_refl _)]
  constructor
  · exact fun h => h.1
  · exact fun h => ⟨h, by have := hs_left h; rw [ha.len] at this; exact this⟩
theorem wf_inv (hn : n ≤ 256) (ha : WF n A) : WF n (invL A) := by
  refine ⟨by unfold invL; rw [invK_len, ha.len], fun p q h => ?_⟩
  have := hs_left ((hs_inv hn ha p q).1 h)
  rw [ha.len] at this
  exact this
theorem hs_via (k j : Nat) (p q : Nat) : hs (plusVia A k j) p q ↔ hs A p q ∨ (p < j ∧ hs A p k ∧ hs A k q) := by
  induction j generalizing p q with
  | zero => simp [plusVia]
  | succ j ih =>
    rw [plusVia_succ]
    have hrow : ∀ q, hs (plusVia A k j) j q ↔ hs A j q := fun q => by
      rw [ih]
      constructor
      · rintro (h | h)
        · exact h
        · omega
      · exact Or.inl
    have hk : ∀ q, hs (plusVia A k j) k q ↔ hs A k q := fun q => by
      rw [ih]
      constructor
      · rintro (h | h)
        · exact h
        · exact h.2.2
      · exact Or.inl
    unfold plusRow
    by_cases hb : (gr (plusVia A k j) j).testBit k = true
    · rw [if_pos hb, hs_set]
      have hjk : hs A j k := (hrow k).1 hb
      by_cases e : p = j
      · subst e
        rw [if_pos ⟨rfl, hs_left (show hs (plusVia A k p) p k from hb)⟩, Nat.testBit_or, Bool.or_eq_true]
        constructor
        · rintro (h | h)
          · exact Or.inl ((hrow q).1 h)
          · exact Or.inr ⟨by omega, hjk, (hk q).1 h⟩
        · rintro (h | ⟨_, _, h⟩)
          · exact Or.inl ((hrow q).2 h)
          · exact Or.inr ((hk q).2 h)
      · rw [if_neg (fun h => e h.1), ih]
        constructor
        · rintro (h | ⟨h1, h2⟩)
          · exact Or.inl h
          · exact Or.inr ⟨by omega, h2⟩
        · rintro (h | ⟨h1, h2⟩)
          · exact Or.inl h
          · exact Or.inr ⟨by omega, h2⟩
    · rw [if_neg hb, ih]
      constructor
      · rintro (h | ⟨h1, h2⟩)
        · exact Or.inl h
        · exact Or.inr ⟨by omega, h2⟩
      · rintro (h | ⟨h1, h2⟩)
        · exact Or.inl h
        · by_cases e : p = j
          · subst e
            exact absurd ((hrow k).2 h2.1) hb
          · exact Or.inr ⟨by omega, h2⟩
theorem hs_viaN (ha : A.length = n) (k : Nat) (p q : Nat) : hs (plusVia A k n) p q ↔ hs A p q ∨ (hs A p k ∧ hs A k q) := by
  rw [hs_via]
  constructor
  · rintro (h | h)
    · exact Or.inl h
    · exact Or.inr h.2
  · rintro (h | h)
    · exact Or.inl h
    · exact Or.inr ⟨by have := hs_left h.1; omega, h⟩
theorem plusN_step (ha : A.length = n) (k p q : Nat) : hs (plusN A (k + 1)) p q ↔ hs (plusN A k) p q ∨ (hs (plusN A k) p k ∧ hs (plusN A k) k q) := by
  rw [plusN_succ, ha]
  exact hs_viaN (by rw [plusN_length]; exact ha) k p q
theorem plusN_sub (ha : A.length = n) (k : Nat) {p q : Nat} (h : hs A p q) : hs (plusN A k) p q := by
  induction k with
  | zero => exact h
  | succ k ih => exact (plusN_step ha k p q).2 (Or.inl ih)
theorem plusN_sound (ha : A.length = n) (k : Nat) {p q : Nat} (h : hs (plusN A k) p q) : TransGen (hs A) p q := by
  induction k generalizing p q with
  | zero => exact TransGen.single h
  | succ k ih =>
    rcases (plusN_step ha k p q).1 h with h | ⟨h1, h2⟩
    · exact ih h
    · exact TransGen.trans (ih h1) (ih h2)
theorem plusN_via (ha : A.length = n) (k : Nat) {p v q : Nat} (hv : v < k) (h1 : hs (plusN A k) p v) (h2 : hs (plusN A k) v q) : hs (plusN A k) p q := by
  induction k generalizing p v q with
  | zero => omega
  | succ k ih =>
    rw [plusN_step ha] at h1 h2 ⊢
    by_cases e : v = k
    · subst e
      have a1 : hs (plusN A v) p v := by
        rcases h1 with h | h
        · exact h
        · exact h.1
      have a2 : hs (plusN A v) v q := by
        rcases h2 with h | h
        · exact h
        · exact h.2
      exact Or.inr ⟨a1, a2⟩
    · have hv : v < k := by omega
      rcases h1 with h1 | ⟨h1, h1'⟩ <;> rcases h2 with h2 | ⟨h2, h2'⟩
      · exact Or.inl (ih hv h1 h2)
      · exact Or.inr ⟨ih hv h1 h2, h2'⟩
      · exact Or.inr ⟨h1, ih hv h1' h2⟩
      · exact Or.inr ⟨h1, h2'⟩
theorem hs_plus (ha : WF n A) (p q : Nat) : hs (plusL A) p q ↔ TransGen (hs A) p q := by
  constructor
  · exact plusN_sound ha.len _
  · intro h
    induction h with
    | single h => exact plusN_sub ha.len _ h
    | tail _ h2 ih =>
      refine plusN_via ha.len _ ?_ ih (plusN_sub ha.len _ h2)
      exact hs_left h2
theorem loops_bit (L : List Nat) (k p : Nat) : (loopsK L k).testBit p = true ↔ p < k ∧ hs L p p := by
  induction k with
  | zero => simp [loopsK]
  | succ k ih =>
    rw [loopsK_succ, testBit_setB]
    by_cases e : p = k
    · subst e
      rw [if_pos rfl]
      unfold hs
      constructor
      · exact fun h => ⟨by omega, h⟩
      · exact fun h => h.2
    · rw [if_neg e, ih]
      constructor
      · exact fun h => ⟨by omega, h.2⟩
      · exact fun h => ⟨by omega, h.2⟩
theorem loops_zero (L : List Nat) : loopsL L = 0 ↔ ∀ p, ¬ hs L p p := by
  constructor
  · intro h p hp
    have := (loops_bit L L.length p).2 ⟨hs_left hp, hp⟩
    unfold loopsL at h
    rw [h] at this
    simp at this
  · intro h
    apply Nat.eq_of_testBit_eq
    intro p
    rw [Nat.zero_testBit, Bool.eq_false_iff]
    intro hb
    exact h p ((loops_bit L L.length p).1 hb).2
end
end Go.Proofs.YthiijcappjaagaaGreatDoor
namespace Go.Proofs.YthiijcappjaagaaGreatDoor
open Go.RowKit Go.Shelf Sx
set_option maxHeartbeats 400000 in
theorem Acyclic_calls (b c : Nat) (L : List Nat) (w : World) (h : IsRel w b c L) :
    Calls Tryz.prog 27 #[pv b] w fun e w' => e = .returned (.bool (loopsL (plusL L) == 0)) ∧ Below w.heap.size w w' := by
  go_enter Tryz.func27, Tryz.ntmps27
  go_wp2_with fail
  refine (Plus_calls b c L _ h).mono ?_
  rintro e w1 ⟨b2, c2, rfl, hM⟩
  go_wp2_with fail
  refine (Irr_calls b2 c2 (plusL L) _ hM.rel).mono ?_
  rintro e w2 ⟨rfl, hB2⟩
  go_wp2_with fail
  go_ret
  exact ⟨rfl, below_step hM.below hM.below.size hB2⟩
end Go.Proofs.YthiijcappjaagaaGreatDoor
