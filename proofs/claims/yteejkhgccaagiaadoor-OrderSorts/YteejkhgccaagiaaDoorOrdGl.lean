/- Package order's glued. -/
import Derived.Test.YteejkhgccaagiaaDoorOrdGlE
import Derived.Test.YteejkhgccaagiaaDoorOfArgs
namespace Go.Proofs.YteejkhgccaagiaaDoor
open Go.RowKit Go.Shelf Sx

def glInit (k : Nat) : List (List Nat) := (List.range k).map (fun p => [p])
theorem glInit_succ (k : Nat) : glInit (k + 1) = glInit k ++ [[k]] := by simp [glInit, List.range_succ]
theorem glInit_length (k : Nat) : (glInit k).length = k := by simp [glInit]
def gluF (n : Nat) : List (Int × Int) → List (List Nat) → Option (List (List Nat))
  | [], bs => some bs
  | (a, b) :: ps, bs => if a ≠ b ∧ freeB n bs a = true ∧ freeB n bs b = true then gluF n ps ((bs.set a.toNat [a.toNat, b.toNat]).set b.toNat []) else none
theorem gluF_step {n : Nat} {l : List (Int × Int)} {k : Nat} {bs : List (List Nat)} {a b : Int} (hx : l[k]? = some (a, b)) : gluF n (l.drop k) bs = if a ≠ b ∧ freeB n bs a = true ∧ freeB n bs b = true then gluF n (l.drop (k + 1)) ((bs.set a.toNat [a.toNat, b.toNat]).set b.toNat []) else none := by
  obtain ⟨hk, e⟩ := List.getElem?_eq_some_iff.1 hx
  rw [List.drop_eq_getElem_cons hk, e]
  rfl
theorem Tryd.infointss : (Tryd.prog.info? 29).map (fun i => (i.zero, i.size, i.bytes)) = some (some (.slice none 0 0), 1, 24) := by kernel_rfl
theorem GlR.push {w w5 : World} {base : Nat} {v v' : Value} {vs : List SV} {bs : List (List Nat)} {k s : Nat} {o : Obj} (h : GlR w base v vs bs) (hs : Blk w s 3 (intsA (toI [k])))
    (hown : w5.ownsRow base 29 1 v' (vs.length + 1) (vs.map encS ++ [.slice (some ⟨s, 0, none⟩) 1 1])) (hg : (w.alloc o).grownBy w5 v.ownBlock) : GlR w5 base v' (vs ++ [(some ⟨s, 0, none⟩, 1, 1)]) (bs ++ [[k]]) := by
  have hk : KeepI w w5 := KeepI.trans (KeepI.of_below ((Below.refl _ _).alloc (Nat.le_refl _) _)) (KeepI.grown (h.own.alloc o) hg)
  have hl := h.len
  refine ⟨?_, by simp [hl], fun i x bl h1 h2 => ?_⟩
  · rw [List.map_append, List.length_append]; exact hown
  · by_cases hi : i < vs.length
    · rw [List.getElem?_append_left hi] at h1
      rw [List.getElem?_append_left (by omega)] at h2
      exact (h.row i x bl h1 h2).mono hk
    · rw [List.getElem?_append_right (by omega)] at h1
      rw [List.getElem?_append_right (by omega)] at h2
      have : i - vs.length = 0 := by
        have := (List.getElem?_eq_some_iff.1 h1).1
        simp at this
        omega
      rw [this] at h1
      rw [show i - bs.length = 0 by omega] at h2
      simp at h1 h2
      subst h1; subst h2
      exact .inr ⟨s, rfl, hk s _ hs⟩
/-- What glued answers. -/
def GlAns (w' : World) (n : Nat) (l : List (Int × Int)) (e : Ending) : Prop :=
  (gluF n l (glInit n) = none → e = .returned (.tuple #[.slice none 0 0, .bool false])) ∧ ∀ bs, gluF n l (glInit n) = some bs → ∃ v', e = .returned (.tuple #[v', .bool true]) ∧ BlocksR w' v' (bs.filter (fun b => !b.isEmpty))
theorem glAns_none {w' : World} {n : Nat} {l : List (Int × Int)} (h : gluF n l (glInit n) = none) : GlAns w' n l (.returned (.tuple #[.slice none 0 0, .bool false])) :=
  ⟨fun _ => rfl, fun bs e => by rw [h] at e; cases e⟩
theorem glAns_some {w' : World} {n : Nat} {l : List (Int × Int)} {bs : List (List Nat)} {v : Value} (h : gluF n l (glInit n) = some bs) (hb : BlocksR w' v (bs.filter (fun b => !b.isEmpty))) : GlAns w' n l (.returned (.tuple #[v, .bool true])) :=
  ⟨(fun e => by rw [h] at e; exact absurd e (by simp)), (fun bs' e => by rw [h] at e; injection e with e; subst e; exact ⟨v, rfl, hb⟩)⟩
theorem blv_slice {w : World} {base : Nat} {v : Value} {bs : List (List Nat)} (h : BlV w base v bs) : ∃ x y z, v = .slice x y z := by
  obtain ⟨p, cap, us, e, _⟩ := h
  exact ⟨_, _, _, e⟩
theorem ret_glued {tmps : Array Value} {w : World} {g : Nat} {x : Option Addr} {y z : Nat} {ok : Bool} (hp : tmps.getD 4 undef = pv g) (hq : tmps.getD 5 undef = .bool ok) (hg : Blk w g 25 #[.slice x y z]) :
    (results Tryd.f46 tmps).run Tryd.prog w = .ok (.tuple #[.slice x y z, .bool ok]) w := by
  have c1 := hg.cell (j := 0) rfl
  rw [results_cell_tmp (p := 4) (u := 5) (ty := 25) rfl, hp, hq]
  simp [asAddr]
  go_simp
theorem freeB_in {n : Nat} {bs : List (List Nat)} {p : Int} (h : freeB n bs p = true) : inR n p = true := by
  unfold freeB at h
  cases hi : inR n p
  · rw [hi] at h; cases h
  · rfl
theorem gl_ne {w : World} {base : Nat} {g n cap B : Nat} {vs : List SV} {bs : List (List Nat)} {cs : Array Value} (h : GlR w base (.slice (some ⟨g, 0, none⟩) n cap) vs bs) (hB : Blk w B 37 cs) : g ≠ B := by
  rcases h.own.2 with ⟨e, _⟩ | ⟨g2, cap2, cur, e, _, hb, _⟩
  · cases e
  · injection e with e _ _
    injection e with e
    injection e with e _ _
    subst e
    intro e
    subst e
    rw [show w.heap[g]? = _ from hB] at hb
    simp at hb
theorem gl_two {w : World} {base : Nat} {g n cap a b : Nat} {vs : List SV} {bs : List (List Nat)} (h : GlR w base (.slice (some ⟨g, 0, none⟩) n cap) vs bs) (ha : a < n) (hb : b < n) (hn : bs.length = n) :
    ∃ xa xb, w.cell? ⟨g, a, none⟩ = some xa ∧ w.cell? ⟨g, b, none⟩ = some xb ∧ w.frozen? ⟨g, a, none⟩ = false ∧ w.frozen? ⟨g, b, none⟩ = false := by
  obtain ⟨g1, c1, x1, _, e1, _, _, _, _, h1, f1, _⟩ := h.cell (i := a) (by omega)
  obtain ⟨g2, c2, x2, _, e2, _, _, _, _, h2, f2, _⟩ := h.cell (i := b) (by omega)
  injection e1 with e1 _ _
  injection e1 with e1
  injection e1 with e1 _ _
  injection e2 with e2 _ _
  injection e2 with e2
  injection e2 with e2 _ _
  subst e1; subst e2
  exact ⟨_, _, h1, h2, f1, f2⟩
theorem gl_blk {w : World} {g B j i : Nat} {t : TypeId} {cs : Array Value} {u x : Value} {o : Obj} (h : Blk w B t cs) (h1 : B ≠ g) (_ : B ≠ g) : Blk (((w.setCell ⟨g, i, none⟩ u).setCell ⟨g, j, none⟩ x).alloc o).drew B t cs := (((h.setOther (a := ⟨g, i, none⟩) h1 u).setOther (a := ⟨g, j, none⟩) h1 x).alloc o).drew
theorem gl_bel {w0 w : World} {g j i N : Nat} {u x : Value} {o : Obj} (h : Below N w0 w) (h1 : N ≤ g) (h2 : N ≤ w.heap.size := by omega) : Below N w0 (((w.setCell ⟨g, i, none⟩ u).setCell ⟨g, j, none⟩ x).alloc o).drew :=
  have a : Below N w0 (w.setCell ⟨g, i, none⟩ u) := h.setCell h1 _
  have b : Below N w0 ((w.setCell ⟨g, i, none⟩ u).setCell ⟨g, j, none⟩ x) := a.setCell h1 _
  (b.alloc (by simpa [World.setCell] using h2) o).drew
theorem gl_after {w : World} {base : Nat} {g n cap a b : Nat} {vs : List SV} {bs : List (List Nat)} (h : GlR w base (.slice (some ⟨g, 0, none⟩) n cap) vs bs) (hn : bs.length = n) (ha : a < n) (hb : b < n) (_ : a ≠ b) :
    GlR (((w.setCell ⟨g, a, none⟩ (.slice (some ⟨w.heap.size, 0, none⟩) 2 2)).setCell ⟨g, b, none⟩ (.slice none 0 0)).alloc (.cells #[.int .i64 a, .int .i64 b] 3)).drew base (.slice (some ⟨g, 0, none⟩) n cap) ((vs.set a (some ⟨w.heap.size, 0, none⟩, 2, 2)).set b (none, 0, 0)) ((bs.set a [a, b]).set b []) := by
  have hl := h.len
  obtain ⟨cur, hcur⟩ : ∃ cur, Blk w g 29 cur := by
    rcases h.own.2 with ⟨e, _⟩ | ⟨g2, cap2, cur, e, _, hb, _⟩
    · cases e
    · injection e with e _ _
      injection e with e
      injection e with e _ _
      subst e
      exact ⟨cur, hb⟩
  have k1 : KeepI w (w.setCell ⟨g, a, none⟩ (.slice (some ⟨w.heap.size, 0, none⟩) 2 2)) := KeepI.set hcur (by decide) _ _
  have k2 := k1.trans (KeepI.set (hcur.set a (.slice (some ⟨w.heap.size, 0, none⟩) 2 2)) (by decide) b (.slice none 0 0))
  have k3 : KeepI w (((w.setCell ⟨g, a, none⟩ (.slice (some ⟨w.heap.size, 0, none⟩) 2 2)).setCell ⟨g, b, none⟩ (.slice none 0 0)).alloc (.cells #[.int .i64 a, .int .i64 b] 3)).drew := fun s cs hs => ((k2 s cs hs).alloc _).drew
  refine ⟨?_, by simp [hl], fun i x bl h1 h2 => ?_⟩
  · have ho := h.own
    rw [hl, hn] at ho
    have o1 := (ho.stored a (.slice (some ⟨w.heap.size, 0, none⟩) 2 2)).1
    have o2 := (o1.stored b (.slice none 0 0)).1
    have o3 := o2.alloc (.cells #[.int .i64 a, .int .i64 b] 3)
    rw [List.map_set, List.map_set, List.length_set, List.length_set, hl, hn]
    exact o3
  · rw [List.getElem?_set] at h1 h2
    by_cases e : b = i
    · subst e
      rw [if_pos rfl, if_pos (by simp; omega)] at h1 h2
      injection h1 with h1
      injection h2 with h2
      subst h1; subst h2
      exact .inl ⟨rfl, rfl⟩
    · rw [if_neg e] at h1 h2
      rw [List.getElem?_set] at h1 h2
      by_cases e2 : a = i
      · subst e2
        rw [if_pos rfl, if_pos (by omega)] at h1 h2
        injection h1 with h1
        injection h2 with h2
        subst h1; subst h2
        refine .inr ⟨w.heap.size, rfl, ?_⟩
        have hz : ((w.setCell ⟨g, a, none⟩ (.slice (some ⟨w.heap.size, 0, none⟩) 2 2)).setCell ⟨g, b, none⟩ (.slice none 0 0)).heap.size = w.heap.size := by simp [World.setCell]
        have := Blk.new ((w.setCell ⟨g, a, none⟩ (.slice (some ⟨w.heap.size, 0, none⟩) 2 2)).setCell ⟨g, b, none⟩ (.slice none 0 0)) 3 #[.int .i64 (a : Int), .int .i64 (b : Int)]
        rw [hz] at this
        exact this.drew
      · rw [if_neg e2] at h1 h2
        exact (h.row i x bl h1 h2).mono k3
theorem glk {W w5 : World} {o o1 : Obj} {base : Nat} {v : Value} {vs : List SV} {bs : List (List Nat)} (h : GlR (W.alloc o) base v vs bs) (hg : ((W.alloc o).alloc o1).grownBy w5 v.ownBlock) (hb : base ≤ W.heap.size) : ∀ k, k < base → w5.heap[k]? = W.heap[k]? := fun k hk =>
  (hg.block k (by simp; omega) (owns_ne h.own hk)).trans ((Below.heap_alloc (W.alloc o) o1 k (by simp; omega)).trans (Below.heap_alloc W o k (by omega)))
theorem gl_set {w : World} {base : Nat} {v u : Value} {vs : List SV} {bs : List (List Nat)} {B : Nat} {cs : Array Value} (h : GlR w base v vs bs) (hB : B < base) (hb : Blk w B 25 cs) {j : Nat} : GlR (w.setCell ⟨B, j, none⟩ u) base v vs bs :=
  ⟨owns_set h.own (by simpa using hB) _, h.len, fun i x bl h1 h2 => (h.row i x bl h1 h2).mono (KeepI.set hb (by decide) _ _)⟩
set_option maxRecDepth 100000 in
set_option maxHeartbeats 2000000 in
theorem oGlued_calls (n : Nat) (hn : n ≤ 256) (v : Value) (l : List (Int × Int)) (w : World) (hv : ∃ p cap, v = .slice p l.length cap ∧ (0 < l.length → ∃ s o, p = some ⟨s, o, none⟩ ∧ PairsAt w s o l)) (hm : l.length ≤ 9223372036854775807) :
    Calls Tryd.prog 46 #[.int .i64 n, v] w fun e w' => GlAns w' n l e ∧ Below w.heap.size w w' := by
  obtain ⟨p, cap, rfl, hp⟩ := hv
  obtain ⟨i0, hi, hz0, hz1, hz2⟩ := info_parts Tryd.infoints
  have HP := hid_of hp
  clear hp
  go_enter Tryd.func46, Tryd.ntmps46
  go_wp2_with fail
  have hB0 : Below w.heap.size w ((w.alloc (.cells #[.int .i64 n] 3)).alloc (.cells #[.slice none 0 0] 25)) := ((Below.refl _ _).alloc (Nat.le_refl _) _).alloc (by simp) _
  have hN0 : Blk ((w.alloc (.cells #[.int .i64 n] 3)).alloc (.cells #[.slice none 0 0] 25)) w.heap.size 3 #[.int .i64 n] := (Blk.new w _ _).alloc _
  have hb0 : Blk ((w.alloc (.cells #[.int .i64 n] 3)).alloc (.cells #[.slice none 0 0] 25)) (w.heap.size + 1) 25 #[.slice none 0 0] := Blk.new2 w _ _ _
  have hz : ((w.alloc (.cells #[.int .i64 n] 3)).alloc (.cells #[.slice none 0 0] 25)).heap.size = w.heap.size + 2 := by simp
  have hg0 : GlR ((w.alloc (.cells #[.int .i64 n] 3)).alloc (.cells #[.slice none 0 0] 25)) (w.heap.size + 2) (.slice none 0 0) [] (glInit 0) := ⟨World.ownsRow_nil _ _ _ _, rfl, fun i x bl h1 _ => by simp at h1⟩
  generalize (w.alloc (.cells #[.int .i64 n] 3)).alloc (.cells #[.slice none 0 0] 25) = wA at *
  have HG0 := hid_of hg0
  clear hg0
  go_loopw [11] (fun i wr => ∃ (k : Nat) (v4 : Value) (vs : List SV), k ≤ n ∧ i = .int .i64 k ∧ Blk wr w.heap.size 3 #[.int .i64 n] ∧ Blk wr (w.heap.size + 1) 25 #[v4] ∧ Hid (GlR wr (w.heap.size + 2) v4 vs (glInit k)) ∧ w.heap.size + 2 ≤ wr.heap.size ∧ Below w.heap.size w wr) (fun i _ => n - (intOf i).toNat)
  case atStart => exact ⟨0, _, [], by omega, rfl, hN0, hb0, HG0, by omega, hB0⟩
  case round =>
    clear hB0 hN0 hb0 HG0 hz
    obtain ⟨k, v4, vs, hk, rfl, hN, hB, HG, hsz, hBl⟩ := hrel
    have q4 := hB.cell (j := 0) rfl
    have f4 := hB.frozen 0
    by_cases hlt : k < n
    · have hvk : vs.length ≤ 256 := by rw [HG.out.len, glInit_length]; omega
      have hbA := ((Below.refl wr.heap.size wr).alloc (Nat.le_refl _) (.cells #[.int .i64 k] 3))
      have HGA := hid_of (HG.out.step hbA)
      have hsA : Blk (wr.alloc (.cells #[.int .i64 k] 3)) wr.heap.size 3 (intsA (toI [k])) := Blk.new wr _ _
      go_wp2_with (at_builtin; refine wpList_append_own_at _ rfl _ _ 25 rfl (w.heap.size + 2) 29 i0 (.slice none 0 0) 1 24 Tryd.underlying25 hi hz0 hz1 hz2 rfl (by decide) v4 vs.length (vs.map encS) rfl (HGA.out.own.alloc _) ⟨_, 0, none⟩ 1 1 [.slice (some ⟨wr.heap.size, 0, none⟩) 1 1] rfl rfl (by intro k2 u hk2; match k2, hk2 with | 0, hk2 => simp at hk2; subst hk2; exact (Blk.new2 wr (.cells #[.int .i64 k] 3) 29 #[.slice (some ⟨wr.heap.size, 0, none⟩) 1 1]).cell (j := 0) rfl) (by simp [Value.oneCell']) (by unfold maxLen; omega) (by omega) (by simp; omega) ?_; intro v' w5 hown' hgrow _ hat; obtain ⟨g', cap', rfl, hg1, hg2⟩ := owns_form hown'; have hb5 : ∀ k, k < w.heap.size + 2 → w5.heap[k]? = wr.heap[k]? := glk HGA.out hgrow hsz; have hB5 : Blk w5 (w.heap.size + 1) 25 #[v4] := (hb5 _ (by omega)).trans hB; have q5 := hB5.cell (j := 0) rfl; have f5 := hB5.frozen 0)
      have hG5 := HGA.out.push (k := k) hsA hown' hgrow
      rw [← glInit_succ] at hG5
      have hN5 : Blk w5 w.heap.size 3 #[.int .i64 n] := (hb5 _ (by omega)).trans hN
      have hz5 : w.heap.size + 2 ≤ w5.heap.size := by have := hgrow.size; simp at this; omega
      have hBw5 : Below w.heap.size w w5 := ⟨hgrow.os.trans hBl.os, hgrow.tape.trans hBl.tape, hgrow.output.trans hBl.output, by have := hBl.size; omega, fun k hk => (hb5 k (by omega)).trans (hBl.block k hk)⟩
      refine ⟨⟨k + 1, _, _, by omega, by go_num, hN5.setOther (by simp) _, by have := hB5.set 0 (.slice (some ⟨g', 0, none⟩) (vs.length + 1) cap'); simpa using this, gl_set hG5 (by simp) hB5, by simpa [World.setCell] using hz5, hBw5.setCell (by simp) _⟩, by simp [intOf]; omega⟩
    · obtain rfl : k = n := by omega
      go_wp2_with fail
      have hlk : (glInit k).length = k := glInit_length k
      go_loopw [23] (fun i wr2 => ∃ (j : Nat) (vs : List SV) (bs : List (List Nat)), j ≤ l.length ∧ i = .int .i64 j ∧ Blk wr2 w.heap.size 3 #[.int .i64 k] ∧ Blk wr2 (w.heap.size + 1) 25 #[v4] ∧ Hid (GlR wr2 (w.heap.size + 2) v4 vs bs) ∧ bs.length = k ∧ Hid (gluF k l (glInit k) = gluF k (l.drop j) bs) ∧ w.heap.size + 2 ≤ wr2.heap.size ∧ Below w.heap.size w wr2) (fun i _ => l.length - (intOf i).toNat)
      case atStart => exact ⟨0, vs, _, by omega, rfl, hN, hB, HG, hlk, rfl, hsz, hBl⟩
      case round =>
        clear hN hB HG hlk hsz hBl q4 f4 hlt hk
        obtain ⟨j, vs, bs, hj, rfl, hN, hB, HG, hbs, HF, hsz, hBl⟩ := hrel
        by_cases hlt : j < l.length
        · obtain ⟨s, o, rfl, hs⟩ := HP.out (by omega)
          obtain ⟨⟨A, B⟩, hx⟩ : ∃ x, l[j]? = some x := ⟨_, List.getElem?_eq_getElem hlt⟩
          have c0 := (hs.below hBl).fst j _ hx
          have c1 := (hs.below hBl).snd j _ hx
          have HE : Hid (_ = _) := HF.out.trans (gluF_step hx)
          clear hx HF
          have hbA := (Below.refl wr.heap.size wr).alloc (Nat.le_refl _) (.cells #[.int .i64 A, .int .i64 B] 37)
          have hpA := Blk.new wr 37 #[.int .i64 A, .int .i64 B]
          have hNA := hN.alloc (.cells #[.int .i64 A, .int .i64 B] 37)
          have hBA := hB.alloc (.cells #[.int .i64 A, .int .i64 B] 37)
          have HGA := hid_of (HG.out.step hbA)
          have hBlA := hBl.alloc hBl.size (.cells #[.int .i64 A, .int .i64 B] 37)
          have hf1 := glued1_calls k w.heap.size (w.heap.size + 1) _ v4 vs bs A _ hNA hBA HGA.out hbs
          have hzA : w.heap.size + 2 ≤ wr.heap.size := hsz
          by_cases hAB : A = B
          · subst hAB
            have hr : gluF k l (glInit k) = none := HE.out.trans (by rw [if_neg (fun h => h.1 rfl)])
            have HR := hid_of hr
            have q5 := hBA.cell (j := 0) rfl
            have f5 := hBA.frozen 0
            have p0 := hpA.cell (j := 0) rfl
            have p1 := hpA.cell (j := 1) rfl
            clear hr HE
            go_wp2_with fail
            have e5 := hBA.set 0 (.slice none 0 0)
            exact bodyPost_ret (ret_glued rfl rfl (by simpa using e5)) rfl ⟨glAns_none HR.out, hBlA.setCell (by simp) _⟩
          · have hne : (A == B) = false := by simpa using hAB
            have HAB := hid_of hAB
            have p0 := hpA.cell (j := 0) rfl
            cases hA : freeB k bs A
            · have HR : Hid (gluF k l (glInit k) = none) := HE.out.trans (by rw [if_neg (fun h => by rw [hA] at h; cases h.2.1)])
              have p1 := hpA.cell (j := 1) rfl
              rw [hA] at hf1
              clear HE
              go_wp2_with (go_at_call 81; refine hf1.mono ?_; rintro e w2 ⟨rfl, hB2⟩; have hBb2 := hBA.of_below hB2; have q5 := hBb2.cell (j := 0) rfl; have f5 := hBb2.frozen 0)
              have e5 := hBb2.set 0 (.slice none 0 0)
              exact bodyPost_ret (ret_glued rfl rfl (by simpa using e5)) rfl ⟨glAns_none HR.out, (below_step hBlA hBlA.size hB2).setCell (by simp) _⟩
            · rw [hA] at hf1
              have HA := hid_of hA
              have p1 := hpA.cell (j := 1) rfl
              have HF2 : Hid (∀ w2, Below (wr.alloc (.cells #[.int .i64 A, .int .i64 B] 37)).heap.size (wr.alloc (.cells #[.int .i64 A, .int .i64 B] 37)) w2 → Calls Tryd.prog 81 #[.int .i64 B, pv w.heap.size, pv (w.heap.size + 1)] w2 fun e w' => e = .returned (.bool (freeB k bs B)) ∧ Below w2.heap.size w2 w') := fun w2 hb2 => glued1_calls k w.heap.size (w.heap.size + 1) _ v4 vs bs B _ (hNA.of_below hb2) (hBA.of_below hb2) (HGA.out.step hb2) hbs
              cases hBf : freeB k bs B
              · have HR : Hid (gluF k l (glInit k) = none) := HE.out.trans (by rw [if_neg (fun h => by rw [hBf] at h; cases h.2.2)])
                rw [hBf] at HF2
                clear HE
                go_wp2_with (first | (go_at_call 81; refine hf1.mono ?_; rintro e w2 ⟨rfl, hB2⟩; have hP2 := hpA.of_below hB2; have p2 := hP2.cell (j := 1) rfl; clear hf1) | (go_at_call 81; refine (HF2.out w2 hB2).mono ?_; rintro e w3 ⟨rfl, hB3⟩; have hBb3 := (hBA.of_below hB2).of_below hB3; have q5 := hBb3.cell (j := 0) rfl; have f5 := hBb3.frozen 0))
                have e5 := hBb3.set 0 (.slice none 0 0)
                exact bodyPost_ret (ret_glued rfl rfl (by simpa using e5)) rfl ⟨glAns_none HR.out, (below_step (below_step hBlA hBlA.size hB2) (Nat.le_trans hBlA.size hB2.size) hB3).setCell (by simp) _⟩
              · rw [hBf] at HF2
                obtain ⟨a, rfl, ha⟩ := inR_true (freeB_in hA)
                obtain ⟨b, rfl, hb⟩ := inR_true (freeB_in hBf)
                have hab : a ≠ b := fun e => HAB.out (by rw [e])
                have HE2 : Hid (gluF k l (glInit k) = gluF k (l.drop (j + 1)) ((bs.set a [a, b]).set b [])) := HE.out.trans (by rw [if_pos ⟨HAB.out, hA, hBf⟩]; simp)
                obtain ⟨g, capg, _, _, hv4, hgb, _⟩ := HG.out.cell (i := a) (by omega)
                rw [hbs] at hv4
                subst hv4
                clear HE
                go_wp2_with (first | (go_at_call 81; refine hf1.mono ?_; rintro e w2 ⟨rfl, hB2⟩; have hP2 := hpA.of_below hB2; have p2 := hP2.cell (j := 1) rfl; clear hf1) | (go_at_call 81; refine (HF2.out w2 hB2).mono ?_; rintro e w3 ⟨rfl, hB3⟩))
                have hN3 := (hNA.of_below hB2).of_below hB3
                have hBb3 := (hBA.of_below hB2).of_below hB3
                have hP3 := hP2.of_below hB3
                have HG3 := hid_of ((HGA.out.step hB2).step hB3)
                have hBl3 : Below w.heap.size w w3 := below_step (below_step hBlA hBlA.size hB2) (Nat.le_trans hBlA.size hB2.size) hB3
                have hz3 : w.heap.size + 2 ≤ wr.heap.size ∧ wr.heap.size < w3.heap.size := ⟨hsz, hP3.lt⟩
                clear hNA hBA hpA HGA hBlA hB2 hB3 hP2 HF2 p0 p1 p2 hN hB HG hBl hbA c0 c1 hs
                generalize wr.heap.size = B9 at *
                have q4 := hBb3.cell (j := 0) rfl
                have p0 := hP3.cell (j := 0) rfl
                have p1 := hP3.cell (j := 1) rfl
                have SW : w3.drew.cell? ⟨w.heap.size + 1, 0, none⟩ = some (.slice (some ⟨g, 0, none⟩) k capg) ∧ w3.drew.cell? ⟨B9, 0, none⟩ = some (.int .i64 a) ∧ w3.drew.cell? ⟨B9, 1, none⟩ = some (.int .i64 b) := ⟨q4, p0, p1⟩
                have hgB : g ≠ B9 := fun e => gl_ne HG3.out hP3 e
                have SX : Hid (∀ W : World, (W.cell? ⟨w.heap.size + 1, 0, none⟩ = some (.slice (some ⟨g, 0, none⟩) k capg) ∧ W.cell? ⟨B9, 0, none⟩ = some (.int .i64 a) ∧ W.cell? ⟨B9, 1, none⟩ = some (.int .i64 b)) → ∀ (j : Nat) (u : Value), (W.setCell ⟨g, j, none⟩ u).cell? ⟨w.heap.size + 1, 0, none⟩ = some (.slice (some ⟨g, 0, none⟩) k capg) ∧ (W.setCell ⟨g, j, none⟩ u).cell? ⟨B9, 0, none⟩ = some (.int .i64 a) ∧ (W.setCell ⟨g, j, none⟩ u).cell? ⟨B9, 1, none⟩ = some (.int .i64 b)) := fun W h j u => ⟨(cell_setOther (by simp; omega) _).trans h.1, (cell_setOther (by simp; omega) _).trans h.2.1, (cell_setOther (by simp; omega) _).trans h.2.2⟩
                have SA : (w3.drew.alloc (.cells #[.int .i64 a, .int .i64 b] 3)).cell? ⟨w.heap.size + 1, 0, none⟩ = some (.slice (some ⟨g, 0, none⟩) k capg) ∧ (w3.drew.alloc (.cells #[.int .i64 a, .int .i64 b] 3)).cell? ⟨B9, 0, none⟩ = some (.int .i64 a) ∧ (w3.drew.alloc (.cells #[.int .i64 a, .int .i64 b] 3)).cell? ⟨B9, 1, none⟩ = some (.int .i64 b) := ⟨cellA' SW.1 _, cellA' SW.2.1 _, cellA' SW.2.2 _⟩
                have SAL : Hid (∀ W : World, (W.cell? ⟨w.heap.size + 1, 0, none⟩ = some (.slice (some ⟨g, 0, none⟩) k capg) ∧ W.cell? ⟨B9, 0, none⟩ = some (.int .i64 a) ∧ W.cell? ⟨B9, 1, none⟩ = some (.int .i64 b)) → ∀ o : Obj, (W.alloc o).cell? ⟨w.heap.size + 1, 0, none⟩ = some (.slice (some ⟨g, 0, none⟩) k capg) ∧ (W.alloc o).cell? ⟨B9, 0, none⟩ = some (.int .i64 a) ∧ (W.alloc o).cell? ⟨B9, 1, none⟩ = some (.int .i64 b)) := fun W h o => ⟨cellA' h.1 _, cellA' h.2.1 _, cellA' h.2.2 _⟩
                have SW0 : w3.cell? ⟨w.heap.size + 1, 0, none⟩ = some (.slice (some ⟨g, 0, none⟩) k capg) ∧ w3.cell? ⟨B9, 0, none⟩ = some (.int .i64 a) ∧ w3.cell? ⟨B9, 1, none⟩ = some (.int .i64 b) := SW
                obtain ⟨xa, xb, ca, cb, fa, fb⟩ := gl_two HG3.out ha hb hbs
                have ca2 := cellA' ca (.cells #[.int .i64 a, .int .i64 b] 3)
                have cb2 := cellA' cb (.cells #[.int .i64 a, .int .i64 b] 3)
                have a0 : (0 : Int) ≤ (a : Int) := by omega
                have a1 : (a : Int) < (k : Int) := by omega
                have b0 : (0 : Int) ≤ (b : Int) := by omega
                have b1 : (b : Int) < (k : Int) := by omega
                have hgl : g < w3.heap.size := World.block_lt_of_cell? w3 _ ca
                have hgn : g ≠ w3.heap.size := by omega
                have hgn2 : w3.heap.size ≠ g := by omega
                go_region_held3 (fun W => W.cell? ⟨w.heap.size + 1, 0, none⟩ = some (.slice (some ⟨g, 0, none⟩) k capg) ∧ W.cell? ⟨B9, 0, none⟩ = some (.int .i64 a) ∧ W.cell? ⟨B9, 1, none⟩ = some (.int .i64 b)) (first | assumption | exact SW | exact SA | exact SAL.out _ (SX.out _ SW0 _ _) _ | exact SAL.out _ (SX.out _ (SX.out _ SW0 _ _) _ _) _) (fail)
                all_goals
                  go_wp2_with fail
                  refine ⟨⟨j + 1, _, _, by omega, by go_num, gl_blk hN3 (by omega) (by omega), gl_blk hBb3 (by omega) (by omega), gl_after HG3.out hbs ha hb hab, by simpa using hbs, HE2.out, ?_, gl_bel hBl3 (by omega)⟩, by simp [intOf]; omega⟩
                  simp [World.setCell, World.drew]
                  omega
        · obtain rfl : j = l.length := by omega
          have hF := HF.out
          rw [List.drop_length] at hF
          have HR : Hid (gluF k l (glInit k) = some bs) := hF
          have q4 := hB.cell (j := 0) rfl
          have hd := del_ans HG.out hsz (by omega)
          clear hF HF
          go_wp2_with (go_at_call 82; refine hd.mono ?_; rintro e w6 ⟨v6, rfl, hV6, hB6⟩; have hBb6 := hB.below hB6 (by omega); have q6 := hBb6.cell (j := 0) rfl; have f6 := hBb6.frozen 0; obtain ⟨x6, y6, z6, rfl⟩ := blv_slice hV6)
          have e6 := hBb6.set 0 (.slice x6 y6 z6)
          exact bodyPost_ret (ret_glued rfl rfl (by simpa using e6)) rfl ⟨glAns_some HR.out (hV6.set hBb6 (by omega)).blocks, (hBl.trans (hB6.mono (by omega))).setCell (by simp) _⟩
end Go.Proofs.YteejkhgccaagiaaDoor
