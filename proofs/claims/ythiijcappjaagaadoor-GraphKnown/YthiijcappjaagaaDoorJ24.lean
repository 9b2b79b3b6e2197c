/- GraphKnown: the changed examples. -/
import Derived.Test.YthiijcappjaagaaDoorJ22
import Derived.Test.YthiijcappjaagaaDoorJ23
namespace Go.Proofs.YthiijcappjaagaaDoor
open Go.RowKit Go.Shelf Sx
def k1 : Gr := { exG with rf := [(0, 2)] }
def k2 : Gr := { exG with rf := [] }
def k3 : Gr := { exG with rf := [(1, 2), (1, 2)] }
def k4 : Gr := { exG with co := [[1, 0]] }
def k5 : Gr := { exG with co := [] }
def k6 : Gr := { exG with co := [[0, 1], []] }
def ev7 : List Ev := [⟨-1, 2, 0, 0, 1⟩, ⟨0, 2, 0, 7, 1⟩, ⟨1, 1, 0, 7, 2⟩, ⟨1, 3, -1, 0, 1⟩]
def k7 : Gr := { exG with evs := ev7 }
def k8 : Gr := { exG with rmw := [(2, 3)] }
def k9 : Gr := { exG with ctrl := [(2, 3)] }
def ev10 : List Ev := [⟨-1, 2, 0, 0, 11⟩, ⟨0, 2, 0, 7, 11⟩, ⟨1, 1, 0, 7, 12⟩, ⟨1, 3, -1, 0, 15⟩]
def k10 : Gr := { exG with evs := ev10, ctrl := [(2, 3)] }
def k11 : Gr := { exG with evs := ev10, ctrl := [(2, 3)], addr := [(2, 3)] }
def k12 : Gr := { exG with evs := [⟨-1, 2, 0, 0, 1⟩], rf := [], co := [[0]] }
theorem bad5_one {g : Gr} (hc : g.cells = 1) (ho : g.co = [[0, 1]]) (hw : wrs g 0 g.evs.length = [0, 1]) : bad5 g = -1 := by
  have h0 : bad5c g 0 = false := by
    unfold bad5c
    rw [ho]
    show (decide (1 ≤ 0) || !isOrdB [0, 1] 0 (wrs g 0 g.evs.length)) = false
    rw [hw, ex_ord]
    rfl
  have h1 : fstBad (bad5c g) 0 g.cells.toNat = -1 := fstBad_none (fun j _ h => by
    rw [hc] at h
    have : j = 0 := by have : (1 : Int).toNat = 1 := rfl; omega
    rw [this]; exact h0)
  unfold bad5
  rw [if_pos h1, hc, ho]
  rfl
theorem k1_chk : chk k1 false = (4, 0) := chk_hit (k := 3) (by omega) (by decide) (by decide)
theorem k2_chk : chk k2 false = (4, 0) := chk_hit (k := 3) (by omega) (by decide) (by decide)
theorem k3_chk : chk k3 false = (4, 1) := chk_hit (k := 3) (by omega) (by decide) (by decide)
theorem bad5_at0 {g : Gr} (hc : g.cells = 1) (h0 : bad5c g 0 = true) : bad5 g = 0 := by
  have h1 : fstBad (bad5c g) 0 g.cells.toNat = 0 := by
    rw [hc]
    exact fstBad_hit (i := 0) (Nat.le_refl _) (by decide) (fun j _ h => by omega) h0
  unfold bad5
  rw [h1, if_neg (by decide)]
theorem k4_chk : chk k4 false = (5, 0) := by
  have h5 : bad5 k4 = 0 := bad5_at0 rfl (by
    unfold bad5c isOrdB
    simp [k4, exG])
  have := chk_hit (g := k4) (q := false) (k := 4) (by omega) (by decide) (by rw [show rl k4 false 4 = bad5 k4 from rfl, h5]; decide)
  rw [this, show rl k4 false 4 = bad5 k4 from rfl, h5]
  rfl
theorem k5_chk : chk k5 false = (5, 0) := by
  have h5 : bad5 k5 = 0 := bad5_at0 rfl (by
    unfold bad5c
    simp [k5])
  have := chk_hit (g := k5) (q := false) (k := 4) (by omega) (by decide) (by rw [show rl k5 false 4 = bad5 k5 from rfl, h5]; decide)
  rw [this, show rl k5 false 4 = bad5 k5 from rfl, h5]
  rfl
theorem k6_chk : chk k6 false = (5, 1) := by
  have h5 : bad5 k6 = 1 := by
    have h0 : bad5c k6 0 = false := by
      show (decide (2 ≤ 0) || !isOrdB [0, 1] 0 (wrs k6 0 4)) = false
      rw [show wrs k6 0 4 = [0, 1] by decide, ex_ord]
      rfl
    have h1 : fstBad (bad5c k6) 0 k6.cells.toNat = -1 := fstBad_none (fun j _ h => by
      have : j = 0 := by have : k6.cells.toNat = 1 := rfl; omega
      rw [this]; exact h0)
    unfold bad5
    rw [if_pos h1]
    rfl
  have := chk_hit (g := k6) (q := false) (k := 4) (by omega) (by decide) (by rw [show rl k6 false 4 = bad5 k6 from rfl, h5]; decide)
  rw [this, show rl k6 false 4 = bad5 k6 from rfl, h5]
  rfl
theorem k7_chk : chk k7 false = (3, 3) := chk_hit (k := 2) (by omega) (by decide) (by decide)
theorem pre5 {g : Gr} {q : Bool} {k : Nat} (h5 : bad5 g = -1) (h : ∀ j, j < k → j ≠ 4 → rl g q j = -1) : ∀ j, j < k → rl g q j = -1 := fun j hj => by
  by_cases e : j = 4
  · rw [e]; exact h5
  · exact h j hj e
theorem k8_chk : chk k8 false = (6, 0) := chk_hit (k := 5) (by omega) (pre5 (bad5_one rfl rfl (by decide)) (by decide)) (by decide)
theorem k9_chk : chk k9 false = (9, 0) := chk_hit (k := 8) (by omega) (pre5 (bad5_one rfl rfl (by decide)) (by decide)) (by decide)
theorem k10_chk : chk k10 true = (0, 0) := chk_none (pre5 (bad5_one rfl rfl (by decide)) (by decide))
theorem k11_chk : chk k11 true = (7, 0) := chk_hit (k := 6) (by omega) (pre5 (bad5_one rfl rfl (by decide)) (by decide)) (by decide)
theorem srt0 : srtI [0] = [0] := by
  unfold srtI
  exact List.mergeSort_of_pairwise (by simp)
theorem k12_chk : chk k12 false = (0, 0) := by
  have h5 : bad5 k12 = -1 := by
    have h0 : bad5c k12 0 = false := by
      show (decide (1 ≤ 0) || !isOrdB [0] 0 (wrs k12 0 1)) = false
      rw [show wrs k12 0 1 = [0] by decide]
      unfold isOrdB
      rw [srt0]
      decide
    have h1 : fstBad (bad5c k12) 0 k12.cells.toNat = -1 := fstBad_none (fun j _ h => by
      have : j = 0 := by have : k12.cells.toNat = 1 := rfl; omega
      rw [this]; exact h0)
    unfold bad5
    rw [if_pos h1]
    rfl
  exact chk_none (pre5 h5 (by decide))
theorem k12_wf : wfB k12 = true := by unfold wfB; rw [k12_chk]; rfl
theorem k12_fin : finL k12 = [0] := by decide
theorem ex_rf : prsF 4 (memB exG.rf) 4 0 = [(1, 2)] := by decide
theorem ex_co : prsF 4 (coB exG) 4 0 = [(0, 1)] := by decide
theorem ex_thr0 : numK (fun e => e.t == -1) exG.evs exG.evs.length = [0] := by decide
theorem ex_thr5 : numK (fun e => e.t == 5) exG.evs exG.evs.length = [] := by decide
set_option linter.unusedSimpArgs false in
set_option maxRecDepth 100000 in
set_option maxHeartbeats 4000000 in
theorem at_calls (V : GrV) (g : Gr) (r p : Int) (w : World) (h : GrR w V g) (hF : Frm w) (hc : chk g false = (r, p)) :
    Calls Tryd.prog 14 #[V.val g, .int .i64 r, .int .i64 p] w fun e w' => e = .returned (.bool true) ∧ Below w.heap.size w w' := by
  have hgb := Blk.new w 26 (V.gs g)
  have hB1 : Below w.heap.size w (w.alloc (.cells (V.gs g) 26)) := (Below.refl _ _).alloc (Nat.le_refl _) _
  have HC := hid_of (gCheck_calls V g false _ (h.below hB1) (hF.step hB1))
  rw [hc] at HC
  dsimp only at HC
  have HB1 := hid_of hB1
  unfold GrV.gs at HC HB1 hgb
  unfold GrV.val at HC ⊢
  have x0 := hgb.cell (j := 0) rfl
  have x1 := hgb.cell (j := 1) rfl
  have x2 := hgb.cell (j := 2) rfl
  have x3 := hgb.cell (j := 3) rfl
  have x4 := hgb.cell (j := 4) rfl
  have x5 := hgb.cell (j := 5) rfl
  have x6 := hgb.cell (j := 6) rfl
  have x7 := hgb.cell (j := 7) rfl
  clear hgb hB1 h hF hc
  have q1 : ((r : Int) == r) = true := by simp
  have q2 : ((p : Int) == p) = true := by simp
  go_enter Tryd.func14, Tryd.ntmps14
  go_wp2_with (first | (go_at_call 15; refine HC.out.mono ?_; rintro e w1 ⟨rfl, hB2⟩))
  go_ret
  exact ⟨by simp, below_step HB1.out HB1.out.size hB2⟩
end Go.Proofs.YthiijcappjaagaaDoor
namespace Go.Proofs.YthiijcappjaagaaDoor
open Go.RowKit Go.Shelf Sx
abbrev exE2 : Array Value := #[.int .i64 (-1), .int .i64 2, .int .i64 (0), .int .u64 0, .int .i64 1, .int .i64 (0), .int .i64 2, .int .i64 (0), .int .u64 7, .int .i64 1, .int .i64 (1), .int .i64 1, .int .i64 (0), .int .u64 7, .int .i64 2, .int .i64 (1), .int .i64 3, .int .i64 (-1), .int .u64 0, .int .i64 5]
abbrev exE7 : Array Value := #[.int .i64 (-1), .int .i64 2, .int .i64 (0), .int .u64 0, .int .i64 1, .int .i64 (0), .int .i64 2, .int .i64 (0), .int .u64 7, .int .i64 1, .int .i64 (1), .int .i64 1, .int .i64 (0), .int .u64 7, .int .i64 2, .int .i64 (1), .int .i64 3, .int .i64 (-1), .int .u64 0, .int .i64 1]
abbrev exE10 : Array Value := #[.int .i64 (-1), .int .i64 2, .int .i64 (0), .int .u64 0, .int .i64 11, .int .i64 (0), .int .i64 2, .int .i64 (0), .int .u64 7, .int .i64 11, .int .i64 (1), .int .i64 1, .int .i64 (0), .int .u64 7, .int .i64 12, .int .i64 (1), .int .i64 3, .int .i64 (-1), .int .u64 0, .int .i64 15]
def evs12 : List Ev := [⟨-1, 2, 0, 0, 1⟩]
def evsX : List Ev := [⟨-1, 2, 0, 0, 1⟩, ⟨0, 2, 0, 7, 1⟩, ⟨1, 1, 0, 7, 2⟩, ⟨1, 3, -1, 0, 5⟩]
theorem evs_x {w : World} {s : Nat} (hE : Blk w s 49 exE2) : EvsAt w s 0 evsX :=
  ⟨hE.lt, (fun i e h => by
    match i, h with
    | 0, h => simp [evsX] at h; subst h; exact hE.cell rfl
    | 1, h => simp [evsX] at h; subst h; exact hE.cell rfl
    | 2, h => simp [evsX] at h; subst h; exact hE.cell rfl
    | 3, h => simp [evsX] at h; subst h; exact hE.cell rfl
    | n + 4, h => simp [evsX] at h), (fun i e h => by
    match i, h with
    | 0, h => simp [evsX] at h; subst h; exact hE.cell rfl
    | 1, h => simp [evsX] at h; subst h; exact hE.cell rfl
    | 2, h => simp [evsX] at h; subst h; exact hE.cell rfl
    | 3, h => simp [evsX] at h; subst h; exact hE.cell rfl
    | n + 4, h => simp [evsX] at h), (fun i e h => by
    match i, h with
    | 0, h => simp [evsX] at h; subst h; exact hE.cell rfl
    | 1, h => simp [evsX] at h; subst h; exact hE.cell rfl
    | 2, h => simp [evsX] at h; subst h; exact hE.cell rfl
    | 3, h => simp [evsX] at h; subst h; exact hE.cell rfl
    | n + 4, h => simp [evsX] at h), (fun i e h => by
    match i, h with
    | 0, h => simp [evsX] at h; subst h; exact hE.cell rfl
    | 1, h => simp [evsX] at h; subst h; exact hE.cell rfl
    | 2, h => simp [evsX] at h; subst h; exact hE.cell rfl
    | 3, h => simp [evsX] at h; subst h; exact hE.cell rfl
    | n + 4, h => simp [evsX] at h), (fun i e h => by
    match i, h with
    | 0, h => simp [evsX] at h; subst h; exact hE.cell rfl
    | 1, h => simp [evsX] at h; subst h; exact hE.cell rfl
    | 2, h => simp [evsX] at h; subst h; exact hE.cell rfl
    | 3, h => simp [evsX] at h; subst h; exact hE.cell rfl
    | n + 4, h => simp [evsX] at h)⟩
theorem evs_7 {w : World} {s : Nat} (hE : Blk w s 49 exE7) : EvsAt w s 0 ev7 :=
  ⟨hE.lt, (fun i e h => by
    match i, h with
    | 0, h => simp [ev7] at h; subst h; exact hE.cell rfl
    | 1, h => simp [ev7] at h; subst h; exact hE.cell rfl
    | 2, h => simp [ev7] at h; subst h; exact hE.cell rfl
    | 3, h => simp [ev7] at h; subst h; exact hE.cell rfl
    | n + 4, h => simp [ev7] at h), (fun i e h => by
    match i, h with
    | 0, h => simp [ev7] at h; subst h; exact hE.cell rfl
    | 1, h => simp [ev7] at h; subst h; exact hE.cell rfl
    | 2, h => simp [ev7] at h; subst h; exact hE.cell rfl
    | 3, h => simp [ev7] at h; subst h; exact hE.cell rfl
    | n + 4, h => simp [ev7] at h), (fun i e h => by
    match i, h with
    | 0, h => simp [ev7] at h; subst h; exact hE.cell rfl
    | 1, h => simp [ev7] at h; subst h; exact hE.cell rfl
    | 2, h => simp [ev7] at h; subst h; exact hE.cell rfl
    | 3, h => simp [ev7] at h; subst h; exact hE.cell rfl
    | n + 4, h => simp [ev7] at h), (fun i e h => by
    match i, h with
    | 0, h => simp [ev7] at h; subst h; exact hE.cell rfl
    | 1, h => simp [ev7] at h; subst h; exact hE.cell rfl
    | 2, h => simp [ev7] at h; subst h; exact hE.cell rfl
    | 3, h => simp [ev7] at h; subst h; exact hE.cell rfl
    | n + 4, h => simp [ev7] at h), (fun i e h => by
    match i, h with
    | 0, h => simp [ev7] at h; subst h; exact hE.cell rfl
    | 1, h => simp [ev7] at h; subst h; exact hE.cell rfl
    | 2, h => simp [ev7] at h; subst h; exact hE.cell rfl
    | 3, h => simp [ev7] at h; subst h; exact hE.cell rfl
    | n + 4, h => simp [ev7] at h)⟩
theorem evs_10 {w : World} {s : Nat} (hE : Blk w s 49 exE10) : EvsAt w s 0 ev10 :=
  ⟨hE.lt, (fun i e h => by
    match i, h with
    | 0, h => simp [ev10] at h; subst h; exact hE.cell rfl
    | 1, h => simp [ev10] at h; subst h; exact hE.cell rfl
    | 2, h => simp [ev10] at h; subst h; exact hE.cell rfl
    | 3, h => simp [ev10] at h; subst h; exact hE.cell rfl
    | n + 4, h => simp [ev10] at h), (fun i e h => by
    match i, h with
    | 0, h => simp [ev10] at h; subst h; exact hE.cell rfl
    | 1, h => simp [ev10] at h; subst h; exact hE.cell rfl
    | 2, h => simp [ev10] at h; subst h; exact hE.cell rfl
    | 3, h => simp [ev10] at h; subst h; exact hE.cell rfl
    | n + 4, h => simp [ev10] at h), (fun i e h => by
    match i, h with
    | 0, h => simp [ev10] at h; subst h; exact hE.cell rfl
    | 1, h => simp [ev10] at h; subst h; exact hE.cell rfl
    | 2, h => simp [ev10] at h; subst h; exact hE.cell rfl
    | 3, h => simp [ev10] at h; subst h; exact hE.cell rfl
    | n + 4, h => simp [ev10] at h), (fun i e h => by
    match i, h with
    | 0, h => simp [ev10] at h; subst h; exact hE.cell rfl
    | 1, h => simp [ev10] at h; subst h; exact hE.cell rfl
    | 2, h => simp [ev10] at h; subst h; exact hE.cell rfl
    | 3, h => simp [ev10] at h; subst h; exact hE.cell rfl
    | n + 4, h => simp [ev10] at h), (fun i e h => by
    match i, h with
    | 0, h => simp [ev10] at h; subst h; exact hE.cell rfl
    | 1, h => simp [ev10] at h; subst h; exact hE.cell rfl
    | 2, h => simp [ev10] at h; subst h; exact hE.cell rfl
    | 3, h => simp [ev10] at h; subst h; exact hE.cell rfl
    | n + 4, h => simp [ev10] at h)⟩
theorem evs_12 {w : World} {s : Nat} (hE : Blk w s 49 exE2) : EvsAt w s 0 evs12 :=
  ⟨hE.lt, (fun i e h => by
    match i, h with
    | 0, h => simp [evs12] at h; subst h; exact hE.cell rfl
    | n + 1, h => simp [evs12] at h), (fun i e h => by
    match i, h with
    | 0, h => simp [evs12] at h; subst h; exact hE.cell rfl
    | n + 1, h => simp [evs12] at h), (fun i e h => by
    match i, h with
    | 0, h => simp [evs12] at h; subst h; exact hE.cell rfl
    | n + 1, h => simp [evs12] at h), (fun i e h => by
    match i, h with
    | 0, h => simp [evs12] at h; subst h; exact hE.cell rfl
    | n + 1, h => simp [evs12] at h), (fun i e h => by
    match i, h with
    | 0, h => simp [evs12] at h; subst h; exact hE.cell rfl
    | n + 1, h => simp [evs12] at h)⟩
theorem evArg_of {w : World} {s cap : Nat} {l : List Ev} {n : Nat} (h : EvsAt w s 0 l) (hn : n = l.length) (h4 : l.length ≤ 4) (hc : l.length ≤ cap) : EvArg w (.slice (some ⟨s, 0, none⟩) n cap) l :=
  ⟨_, _, by rw [hn], fun _ => ⟨s, 0, rfl, h⟩, by omega, hc⟩
theorem p_nil (w : World) : PArg w (.slice none 0 0) [] := .inl ⟨_, _, rfl, rfl⟩
theorem p_one {w : World} {p : Nat} {x y : Int} (h : Blk w p 39 #[.int .i64 x, .int .i64 y]) : PArg w (.slice (some ⟨p, 0, none⟩) 1 1) [(x, y)] := by
  have h0 : w.cell? ⟨p, 0, none⟩ = some (.int .i64 x) := h.cell rfl
  have h1 : w.cell? ⟨p, 1, none⟩ = some (.int .i64 y) := h.cell rfl
  refine .inr ⟨p, 0, 1, rfl, ⟨h.lt, fun i z hz => ?_, fun i z hz => ?_⟩, by simp⟩
  · match i, hz with
    | 0, hz => simp at hz; subst hz; exact h0
    | n + 1, hz => simp at hz
  · match i, hz with
    | 0, hz => simp at hz; subst hz; exact h1
    | n + 1, hz => simp at hz
theorem p_two {w : World} {p : Nat} (h : Blk w p 39 #[.int .i64 1, .int .i64 2, .int .i64 1, .int .i64 2]) : PArg w (.slice (some ⟨p, 0, none⟩) 2 2) [(1, 2), (1, 2)] := by
  have h0 : w.cell? ⟨p, 0, none⟩ = some (.int .i64 1) := h.cell rfl
  have h1 : w.cell? ⟨p, 1, none⟩ = some (.int .i64 2) := h.cell rfl
  have h2 : w.cell? ⟨p, 2, none⟩ = some (.int .i64 1) := h.cell rfl
  have h3 : w.cell? ⟨p, 3, none⟩ = some (.int .i64 2) := h.cell rfl
  refine .inr ⟨p, 0, 2, rfl, ⟨h.lt, fun i z hz => ?_, fun i z hz => ?_⟩, by simp⟩
  · match i, hz with
    | 0, hz => simp at hz; subst hz; exact h0
    | 1, hz => simp at hz; subst hz; exact h2
    | n + 2, hz => simp at hz
  · match i, hz with
    | 0, hz => simp at hz; subst hz; exact h1
    | 1, hz => simp at hz; subst hz; exact h3
    | n + 2, hz => simp at hz
theorem i_of {w : World} {l n : Nat} {xs : List Int} (h : Blk w l 3 (xs.map encI1).toArray) (hn : n = xs.length) : IntsR w (.slice (some ⟨l, 0, none⟩) n n) xs := by
  subst hn
  exact (blk_list (enc := encI1) h).ints
theorem co_nil (w : World) : CoArg w (.slice none 0 0) [] := ⟨_, _, rfl, by decide, [], rfl, (fun h => by simp at h), fun i u l hu => by simp at hu⟩
theorem co_one {w : World} {k l n : Nat} {xs : List Int} (h : Blk w k 42 #[.slice (some ⟨l, 0, none⟩) n n]) (hl : IntsR w (.slice (some ⟨l, 0, none⟩) n n) xs) (hn : n = xs.length) (h4 : xs.length ≤ 4) : CoArg w (.slice (some ⟨k, 0, none⟩) 1 1) [xs] := by
  have h0 : w.cell? ⟨k, 0, none⟩ = some (.slice (some ⟨l, 0, none⟩) n n) := h.cell rfl
  refine ⟨_, _, rfl, by simp, [.slice (some ⟨l, 0, none⟩) n n], rfl, fun _ => ⟨k, 0, rfl, h.lt, fun i u hu => ?_⟩, fun i u l' hu hl' => ?_⟩
  · match i, hu with
    | 0, hu => simp at hu; subst hu; exact h0
    | m + 1, hu => simp at hu
  · match i, hu with
    | 0, hu =>
      simp at hu hl'
      subst hu
      subst hl'
      exact ⟨hl, by omega, _, _, by rw [hn], by omega⟩
    | m + 1, hu => simp at hu
theorem co_two {w : World} {k l : Nat} (h : Blk w k 42 #[.slice (some ⟨l, 0, none⟩) 2 2, .slice none 0 0]) (hl : IntsR w (.slice (some ⟨l, 0, none⟩) 2 2) [0, 1]) : CoArg w (.slice (some ⟨k, 0, none⟩) 2 2) [[0, 1], []] := by
  have h0 : w.cell? ⟨k, 0, none⟩ = some (.slice (some ⟨l, 0, none⟩) 2 2) := h.cell rfl
  have h1 : w.cell? ⟨k, 1, none⟩ = some (.slice none 0 0) := h.cell rfl
  refine ⟨_, _, rfl, by simp, [.slice (some ⟨l, 0, none⟩) 2 2, .slice none 0 0], rfl, fun _ => ⟨k, 0, rfl, h.lt, fun i u hu => ?_⟩, fun i u l' hu hl' => ?_⟩
  · match i, hu with
    | 0, hu => simp at hu; subst hu; exact h0
    | 1, hu => simp at hu; subst hu; exact h1
    | m + 2, hu => simp at hu
  · match i, hu with
    | 0, hu =>
      simp at hu hl'
      subst hu
      subst hl'
      exact ⟨hl, by simp, _, _, rfl, by simp⟩
    | 1, hu =>
      simp at hu hl'
      subst hu
      subst hl'
      exact ⟨.inl ⟨_, _, rfl, rfl⟩, by simp, _, _, rfl, by simp⟩
    | m + 2, hu => simp at hu
abbrev exA (e p k : Nat) : Array Value := #[.int .i64 1, .slice (some ⟨e, 0, none⟩) 4 4, .slice (some ⟨p, 0, none⟩) 1 1, .slice (some ⟨k, 0, none⟩) 1 1, .slice none 0 0, .slice none 0 0, .slice none 0 0, .slice none 0 0]
structure ExL (w : World) (e p l k : Nat) (E : Array Value) : Prop where
  he : Blk w e 49 E
  hp : Blk w p 39 #[.int .i64 1, .int .i64 2]
  hl : Blk w l 3 #[.int .i64 0, .int .i64 1]
  hk : Blk w k 42 #[.slice (some ⟨l, 0, none⟩) 2 2]
theorem ExL.below {w w' : World} {e p l k : Nat} {E : Array Value} (h : ExL w e p l k E) (hb : Below w.heap.size w w') : ExL w' e p l k E := ⟨h.he.of_below hb, h.hp.of_below hb, h.hl.of_below hb, h.hk.of_below hb⟩
theorem ExL.alloc {w : World} {e p l k : Nat} {E : Array Value} (h : ExL w e p l k E) (ob : Obj) : ExL (w.alloc ob) e p l k E := ⟨h.he.alloc ob, h.hp.alloc ob, h.hl.alloc ob, h.hk.alloc ob⟩
theorem ExL.setG {w : World} {e p l k gb : Nat} {E G : Array Value} (h : ExL w e p l k E) (hg : Blk w gb 26 G) (j : Nat) (u : Value) : ExL (w.setCell ⟨gb, j, none⟩ u) e p l k E :=
  ⟨h.he.setOther (a := ⟨gb, j, none⟩) (blk_ne h.he hg (by decide)) u, h.hp.setOther (a := ⟨gb, j, none⟩) (blk_ne h.hp hg (by decide)) u, h.hl.setOther (a := ⟨gb, j, none⟩) (blk_ne h.hl hg (by decide)) u, h.hk.setOther (a := ⟨gb, j, none⟩) (blk_ne h.hk hg (by decide)) u⟩
theorem ExL.rowG {w : World} {e p l k gb : Nat} {E G : Array Value} (h : ExL w e p l k E) (hg : Blk w gb 26 G) (cs : Array Value) : ExL (w.setRow gb cs) e p l k E :=
  ⟨h.he.rowOther (blk_ne h.he hg (by decide)) cs, h.hp.rowOther (blk_ne h.hp hg (by decide)) cs, h.hl.rowOther (blk_ne h.hl hg (by decide)) cs, h.hk.rowOther (blk_ne h.hk hg (by decide)) cs⟩
theorem ExL.setE {w : World} {e p l k : Nat} {E : Array Value} (h : ExL w e p l k E) (j : Nat) (u : Value) : ExL (w.setCell ⟨e, j, none⟩ u) e p l k (E.setIfInBounds j u) :=
  ⟨h.he.set j u, h.hp.setOther (a := ⟨e, j, none⟩) (blk_ne h.hp h.he (by decide)) u, h.hl.setOther (a := ⟨e, j, none⟩) (blk_ne h.hl h.he (by decide)) u, h.hk.setOther (a := ⟨e, j, none⟩) (blk_ne h.hk h.he (by decide)) u⟩
theorem ExL.co {w : World} {e p l k : Nat} {E : Array Value} (h : ExL w e p l k E) : CoArg w (.slice (some ⟨k, 0, none⟩) 1 1) [[0, 1]] := co_one h.hk (i_of (xs := [0, 1]) h.hl rfl) rfl (by decide)
set_option linter.unusedSimpArgs false in
set_option maxRecDepth 100000 in
set_option maxHeartbeats 4000000 in
theorem example2_calls (w : World) : Calls Tryd.prog 4 #[] w fun r w' => ∃ e p l k, r = .returned (.agg (exA e p k)) ∧ ExL w' e p l k exE2 ∧ Below w.heap.size w w' ∧ w.heap.size ≤ e := by
  go_enter Tryd.func4, Tryd.ntmps4
  go_wp2_with fail
  refine bodyPost_ret (results_cell_row rfl _ _ w.heap.size 26 _ (0, 0) _ rfl (((((Blk.new w 26 _).alloc _).alloc _).alloc _).alloc _) Tryd.underlying26 rfl (by kernel_rfl)) rfl ?_
  refine ⟨_, _, _, _, rfl, ⟨(((Blk.new2 w _ 49 exE).alloc _).alloc _).alloc _, ((Blk.new3 w _ _ 39 _).alloc _).alloc _, (Blk.new4 w _ _ _ 3 _).alloc _, Blk.new5 w _ _ _ _ 42 _⟩, ?_, by omega⟩
  exact (((((Below.refl w.heap.size w).alloc (Nat.le_refl _) _).alloc (by simp) _).alloc (by simp; omega) _).alloc (by simp; omega) _).alloc (by simp; omega) _
end Go.Proofs.YthiijcappjaagaaDoor
namespace Go.Proofs.YthiijcappjaagaaDoor
open Go.RowKit Go.Shelf Sx
theorem twr_eq {n : Nat} {F : Nat → Nat → Bool} {L M : List Nat} (h1 : TwR n F L) (h2 : TwR n F M) (w1 : WF L.length L) (w2 : WF M.length M) : L = M := by
  refine List.ext_getElem (by rw [h1.len, h2.len]) (fun i hi hj => ?_)
  have e1 : L[i] = gr L i := by have := gr_of hi; rw [List.getElem?_eq_getElem hi] at this; exact Option.some.inj this
  have e2 : M[i] = gr M i := by have := gr_of hj; rw [List.getElem?_eq_getElem hj] at this; exact Option.some.inj this
  rw [e1, e2]
  refine Nat.eq_of_testBit_eq (fun q => ?_)
  by_cases hq : q < n
  · rw [← h1.same i q (by rw [← h1.len]; exact hi) hq, ← h2.same i q (by rw [← h2.len]; exact hj) hq]
  · have f1 : (gr L i).testBit q = false := by
      cases e : (gr L i).testBit q
      · rfl
      · exact absurd (w1.low i q e) (by rw [h1.len]; exact hq)
    have f2 : (gr M i).testBit q = false := by
      cases e : (gr M i).testBit q
      · rfl
      · exact absurd (w2.low i q e) (by rw [h2.len]; exact hq)
    rw [f1, f2]
theorem low4 {M : List Nat} (h4 : M.length = 4) (h : ∀ p, p < 4 → gr M p < 16) : WF M.length M := by
  refine ⟨rfl, fun p q hb => ?_⟩
  have hp := hs_left hb
  rw [h4] at hp ⊢
  apply Nat.lt_of_not_le
  intro hle
  unfold hs at hb
  rw [Nat.testBit_lt_two_pow (Nat.lt_of_lt_of_le (h p hp) (Nat.pow_le_pow_right (n := 2) (by omega) hle))] at hb
  cases hb
theorem ex_same {w : World} {b c : Nat} {L : List Nat} (hr : IsRel w b c L) (ht : TwR 4 (sameEv exG.evs) L) : sizeL L = 9 := by
  have : L = [7, 7, 7, 0] := twr_eq ht ⟨rfl, fun p q hp hq => (by decide : ∀ p, p < 4 → ∀ q, q < 4 → sameEv exG.evs p q = (gr [7, 7, 7, 0] p).testBit q) p hp q hq⟩ (rel_wf hr) (low4 rfl (by decide))
  rw [this]
  decide +kernel
theorem ex_fr {w : World} {b c : Nat} {L : List Nat} (hr : IsRel w b c L) (ht : TwR 4 (frB exG) L) : sizeL L = 0 := by
  have : L = [0, 0, 0, 0] := twr_eq ht ⟨rfl, fun p q hp hq => (by decide : ∀ p, p < 4 → ∀ q, q < 4 → frB exG p q = (gr [0, 0, 0, 0] p).testBit q) p hp q hq⟩ (rel_wf hr) (low4 rfl (by decide))
  rw [this]
  decide +kernel
theorem ex_rel1 {w : World} {b c : Nat} {L : List Nat} (hr : IsRel w b c L) (ht : TwR 4 (memB exG.rf) L) : pairsL L = [(1, 2)] := by
  rw [twin_pairs (by decide) (twr_twin ht hr)]
  exact ex_rf
theorem ex_rel2 {w : World} {b c : Nat} {L : List Nat} (hr : IsRel w b c L) (ht : TwR 4 (coB exG) L) : pairsL L = [(0, 1)] := by
  rw [twin_pairs (by decide) (twr_twin ht hr)]
  exact ex_co
set_option linter.unusedSimpArgs false in
set_option maxRecDepth 100000 in
set_option maxHeartbeats 32000000 in
theorem GraphKnown_calls (w : World) (hF : Frm w) (hT : Tab w) : Calls Tryd.prog 3 #[] w fun r w' => r = .returned (.bool true) ∧ Below w.heap.size w w' := by
  have HF := hid_of hF
  have HT := hid_of hT
  clear hF hT
  go_enter Tryd.func3, Tryd.ntmps3
  go_wp2_with fail
  refine (example2_calls w).mono ?_
  rintro r w1 ⟨e, p, l, k, rfl, hX, hB1, _⟩
  have HW1 := hid_of hB1
  have hg := Blk.new w1 26 (exA e p k)
  have hX2 := hX.alloc (.cells (exA e p k) 26)
  have HW2 : Hid (Below w.heap.size w (w1.alloc (.cells (exA e p k) 26))) := HW1.out.alloc HW1.out.size _
  have HGB : Hid (w.heap.size ≤ w1.heap.size) := HW1.out.size
  clear hB1 hX HW1
  go_wp2_with fail
  generalize hw2 : w1.alloc (.cells (exA e p k) 26) = w2 at *
  generalize hgb : w1.heap.size = gb at *
  clear hw2 hgb
  refine (lives_calls w2 (HF.out.step HW2.out) (HT.out.step' HW2.out)).mono ?_
  rintro r w3 ⟨rfl, hB3⟩
  have HW3 : Hid (Below w.heap.size w w3) := below_step HW2.out HW2.out.size hB3
  have HG3 := hid_of (hg.of_below hB3)
  have HX3 := hid_of (hX2.below hB3)
  clear hB3 HW2 hg hX2
  have hgx : ∀ W, ExL W e p l k exE2 → GrR W ⟨.slice (some ⟨e, 0, none⟩) 4 4, .slice (some ⟨p, 0, none⟩) 1 1, .slice (some ⟨k, 0, none⟩) 1 1, .slice none 0 0, .slice none 0 0, .slice none 0 0, .slice none 0 0⟩ exG := fun W h => ⟨evArg_of (evs_x h.he) rfl (by decide) (by decide), p_one h.hp, h.co, p_nil W, p_nil W, p_nil W, p_nil W⟩
  have HGX := hid_of hgx
  clear hgx
  have c0 : w3.cell? ⟨gb, 0, none⟩ = some (.int .i64 1) := HG3.out.cell rfl
  have c1 : w3.cell? ⟨gb, 1, none⟩ = some (.slice (some ⟨e, 0, none⟩) 4 4) := HG3.out.cell rfl
  have c2 : w3.cell? ⟨gb, 2, none⟩ = some (.slice (some ⟨p, 0, none⟩) 1 1) := HG3.out.cell rfl
  have c3 : w3.cell? ⟨gb, 3, none⟩ = some (.slice (some ⟨k, 0, none⟩) 1 1) := HG3.out.cell rfl
  have c4 : w3.cell? ⟨gb, 4, none⟩ = some (.slice none 0 0) := HG3.out.cell rfl
  have c5 : w3.cell? ⟨gb, 5, none⟩ = some (.slice none 0 0) := HG3.out.cell rfl
  have c6 : w3.cell? ⟨gb, 6, none⟩ = some (.slice none 0 0) := HG3.out.cell rfl
  have c7 : w3.cell? ⟨gb, 7, none⟩ = some (.slice none 0 0) := HG3.out.cell rfl
  go_wp2_with fail
  clear c0 c1 c2 c3 c4 c5 c6 c7
  refine (gDerive_calls ⟨.slice (some ⟨e, 0, none⟩) 4 4, .slice (some ⟨p, 0, none⟩) 1 1, .slice (some ⟨k, 0, none⟩) 1 1, .slice none 0 0, .slice none 0 0, .slice none 0 0, .slice none 0 0⟩ exG w3 (HGX.out w3 HX3.out) (HF.out.step HW3.out) (HT.out.step' HW3.out)).mono ?_
  rintro r w5 (⟨_, v, f, lo, rfl, hD, hB5⟩ | ⟨hf, _⟩)
  case inr => rw [ex_wf] at hf; cases hf
  have HW5 : Hid (Below w.heap.size w w5) := below_step HW3.out HW3.out.size hB5
  have HG5 := hid_of (HG3.out.of_below hB5)
  have HX5 := hid_of (HX3.out.below hB5)
  have HD := hid_of hD
  clear hB5 HG3 HX3 HW3 hD
  have hz := Blk.new w5 32 nilF
  have hall := outV_all HD.out.res f HD.out.fr.one
  go_upto_region 5 with (first | refine wpList_store_row rfl 32 _ _ rfl w5.heap.size (outV v f) rfl rfl 32 nilF hz (by kernel_rfl) rfl hall ?_)
  have hB6 : Below w5.heap.size w5 ((w5.alloc (.cells nilF 32)).setRow w5.heap.size (outV v f)) := ((Below.refl w5.heap.size w5).alloc (Nat.le_refl _) _).trans (below_row _ (Nat.le_refl _))
  have HFB := hid_of (hz.setRow' (outV v f))
  have HW6 : Hid (Below w.heap.size w ((w5.alloc (.cells nilF 32)).setRow w5.heap.size (outV v f))) := below_step HW5.out HW5.out.size hB6
  have HG6 := hid_of (HG5.out.of_below hB6)
  have HX6 := hid_of (HX5.out.below hB6)
  obtain ⟨b1, c1, L1, e1, hr1, ht1, _⟩ := ((HD.out.res 1 (by omega)).rel (by omega)).below hB6
  obtain ⟨b2, c2, L2, e2, hr2, ht2, _⟩ := ((HD.out.res 2 (by omega)).rel (by omega)).below hB6
  obtain ⟨b3, c3, L3, e3, hr3, ht3, _⟩ := ((HD.out.res 3 (by omega)).rel (by omega)).below hB6
  obtain ⟨b4, c4, L4, e4, hr4, ht4, _⟩ := ((HD.out.res 4 (by omega)).rel (by omega)).below hB6
  obtain ⟨b9, c9, L9, e9, hr9, ht9, _⟩ := HD.out.fr.below hB6
  generalize (w5.alloc (.cells nilF 32)).setRow w5.heap.size (outV v f) = w6 at *
  generalize w5.heap.size = fb at *
  have HR1 := hid_of hr1
  have HR2 := hid_of hr2
  have HR4 := hid_of hr4
  have HR9 := hid_of hr9
  have HT1 := hid_of ht1
  have HT2 := hid_of ht2
  have HT4 := hid_of ht4
  have HT9 := hid_of ht9
  have E1 := hid_of e1
  have E2 := hid_of e2
  have E3 := hid_of e3
  have E4 := hid_of e4
  have E9 := hid_of e9
  clear hr1 hr2 hr3 hr4 hr9 ht1 ht2 ht3 ht4 ht9 hz hall hB6 HG5 HX5 HW5 HD e1 e2 e3 e4 e9
  have y1 : w6.cell? ⟨fb, 1, none⟩ = some (pv b1) := HFB.out.cell (by rw [← E1.out]; rfl)
  have y2 : w6.cell? ⟨fb, 2, none⟩ = some (pv b2) := HFB.out.cell (by rw [← E2.out]; rfl)
  have y3 : w6.cell? ⟨fb, 3, none⟩ = some (pv b9) := HFB.out.cell (by rw [← E9.out]; rfl)
  have y4 : w6.cell? ⟨fb, 4, none⟩ = some (pv b3) := HFB.out.cell (by rw [← E3.out]; rfl)
  have y5 : w6.cell? ⟨fb, 5, none⟩ = some (pv b4) := HFB.out.cell (by rw [← E4.out]; rfl)
  go_wp2_with fail
  clear y1 y2 y3 y4 y5
  refine (Pairs_calls b1 c1 L1 w6 HR1.out (HT.out.step' HW6.out)).mono ?_
  rintro r w7 ⟨u2, rfl, hu2, hB⟩
  rw [ex_rel1 HR1.out HT1.out] at hu2
  have HU := hid_of (owns_parg (l := [(1, 2)]) hu2 (by decide))
  clear hu2
  have HW7 : Hid (Below w.heap.size w w7) := below_step HW6.out HW6.out.size hB
  have HG7 := hid_of (HG6.out.of_below hB)
  have HX7 := hid_of (HX6.out.below hB)
  have HFB_7 := hid_of (HFB.out.of_below hB)
  have HR2_7 := hid_of (HR2.out.below hB)
  have HR4_7 := hid_of (HR4.out.below hB)
  have HR9_7 := hid_of (HR9.out.below hB)
  clear HW6 HG6 HX6 HFB HR2 HR4 HR9 hB
  go_wp2_with fail
  have hBa : Below w7.heap.size w7 (w7.alloc (.cells #[.int .i64 1, .int .i64 2] 39)) := (Below.refl _ _).alloc (Nat.le_refl _) _
  refine (l8pairs_calls u2 _ [(1, 2)] [(1, 2)] _ (HU.out.below hBa) (one_pair w7 1 2)).mono ?_
  rintro r w8 ⟨rfl, hB'⟩
  have hB := hBa.trans (hB'.mono hBa.size)
  clear hBa hB' HU
  have HW8 : Hid (Below w.heap.size w w8) := below_step HW7.out HW7.out.size hB
  have HG8 := hid_of (HG7.out.of_below hB)
  have HX8 := hid_of (HX7.out.below hB)
  have HFB_8 := hid_of (HFB_7.out.of_below hB)
  have HR2_8 := hid_of (HR2_7.out.below hB)
  have HR4_8 := hid_of (HR4_7.out.below hB)
  have HR9_8 := hid_of (HR9_7.out.below hB)
  clear HW7 HG7 HX7 HFB_7 HR2_7 HR4_7 HR9_7 hB
  have y2 : w8.cell? ⟨fb, 2, none⟩ = some (pv b2) := HFB_8.out.cell (by rw [← E2.out]; rfl)
  go_wp2_with fail
  clear y2
  refine (Pairs_calls b2 c2 L2 w8 HR2_8.out (HT.out.step' HW8.out)).mono ?_
  rintro r w9 ⟨u2, rfl, hu2, hB⟩
  rw [ex_rel2 HR2_8.out HT2.out] at hu2
  have HU := hid_of (owns_parg (l := [(0, 1)]) hu2 (by decide))
  clear hu2
  have HW9 : Hid (Below w.heap.size w w9) := below_step HW8.out HW8.out.size hB
  have HG9 := hid_of (HG8.out.of_below hB)
  have HX9 := hid_of (HX8.out.below hB)
  have HFB_9 := hid_of (HFB_8.out.of_below hB)
  have HR4_9 := hid_of (HR4_8.out.below hB)
  have HR9_9 := hid_of (HR9_8.out.below hB)
  clear HW8 HG8 HX8 HFB_8 HR4_8 HR9_8 hB
  go_wp2_with fail
  have hBa : Below w9.heap.size w9 (w9.alloc (.cells #[.int .i64 0, .int .i64 1] 39)) := (Below.refl _ _).alloc (Nat.le_refl _) _
  refine (l8pairs_calls u2 _ [(0, 1)] [(0, 1)] _ (HU.out.below hBa) (one_pair w9 0 1)).mono ?_
  rintro r w10 ⟨rfl, hB'⟩
  have hB := hBa.trans (hB'.mono hBa.size)
  clear hBa hB' HU
  have HW10 : Hid (Below w.heap.size w w10) := below_step HW9.out HW9.out.size hB
  have HG10 := hid_of (HG9.out.of_below hB)
  have HX10 := hid_of (HX9.out.below hB)
  have HFB_10 := hid_of (HFB_9.out.of_below hB)
  have HR4_10 := hid_of (HR4_9.out.below hB)
  have HR9_10 := hid_of (HR9_9.out.below hB)
  clear HW9 HG9 HX9 HFB_9 HR4_9 HR9_9 hB
  have y3 : w10.cell? ⟨fb, 3, none⟩ = some (pv b9) := HFB_10.out.cell (by rw [← E9.out]; rfl)
  go_wp2_with fail
  clear y3
  refine (Size_calls b9 c9 L9 w10 HR9_10.out).mono ?_
  rw [ex_fr HR9_10.out HT9.out]
  rintro r w11 ⟨rfl, hB⟩
  have HW11 : Hid (Below w.heap.size w w11) := below_step HW10.out HW10.out.size hB
  have HG11 := hid_of (HG10.out.of_below hB)
  have HX11 := hid_of (HX10.out.below hB)
  have HFB_11 := hid_of (HFB_10.out.of_below hB)
  have HR4_11 := hid_of (HR4_10.out.below hB)
  clear HW10 HG10 HX10 HFB_10 HR4_10 hB
  have y5 : w11.cell? ⟨fb, 5, none⟩ = some (pv b4) := HFB_11.out.cell (by rw [← E4.out]; rfl)
  go_wp2_with fail
  clear y5
  refine (Size_calls b4 c4 L4 w11 HR4_11.out).mono ?_
  rw [ex_same HR4_11.out HT4.out]
  rintro r w12 ⟨rfl, hB⟩
  have HW12 : Hid (Below w.heap.size w w12) := below_step HW11.out HW11.out.size hB
  have HG12 := hid_of (HG11.out.of_below hB)
  have HX12 := hid_of (HX11.out.below hB)
  have HFB_12 := hid_of (HFB_11.out.of_below hB)
  clear HW11 HG11 HX11 HFB_11 hB
  have c0 : w12.cell? ⟨gb, 0, none⟩ = some (.int .i64 1) := HG12.out.cell rfl
  have c1 : w12.cell? ⟨gb, 1, none⟩ = some (.slice (some ⟨e, 0, none⟩) 4 4) := HG12.out.cell rfl
  have c2 : w12.cell? ⟨gb, 2, none⟩ = some (.slice (some ⟨p, 0, none⟩) 1 1) := HG12.out.cell rfl
  have c3 : w12.cell? ⟨gb, 3, none⟩ = some (.slice (some ⟨k, 0, none⟩) 1 1) := HG12.out.cell rfl
  have c4 : w12.cell? ⟨gb, 4, none⟩ = some (.slice none 0 0) := HG12.out.cell rfl
  have c5 : w12.cell? ⟨gb, 5, none⟩ = some (.slice none 0 0) := HG12.out.cell rfl
  have c6 : w12.cell? ⟨gb, 6, none⟩ = some (.slice none 0 0) := HG12.out.cell rfl
  have c7 : w12.cell? ⟨gb, 7, none⟩ = some (.slice none 0 0) := HG12.out.cell rfl
  go_wp2_with fail
  clear c0 c1 c2 c3 c4 c5 c6 c7
  refine (gThread_calls ⟨.slice (some ⟨e, 0, none⟩) 4 4, .slice (some ⟨p, 0, none⟩) 1 1, .slice (some ⟨k, 0, none⟩) 1 1, .slice none 0 0, .slice none 0 0, .slice none 0 0, .slice none 0 0⟩ exG (-1) w12 (HGX.out w12 HX12.out)).mono ?_
  rintro r w13 ⟨u3, rfl, hu3, hB⟩
  rw [ex_thr0] at hu3
  have HU3 := hid_of (owns_list (enc := encI1) (l := [0]) hu3)
  clear hu3
  have HW13 : Hid (Below w.heap.size w w13) := below_step HW12.out HW12.out.size hB
  have HG13 := hid_of (HG12.out.of_below hB)
  have HX13 := hid_of (HX12.out.below hB)
  clear HW12 HG12 HX12 hB
  go_wp2_with fail
  have hBa : Below w13.heap.size w13 (w13.alloc (.cells #[.int .i64 0] 3)) := (Below.refl _ _).alloc (Nat.le_refl _) _
  refine (l8ints_calls u3 _ [0] [0] _ (HU3.out.below hBa) (blk_list (enc := encI1) (l := [0]) (Blk.new w13 3 #[.int .i64 0])) (by decide)).mono ?_
  rintro r w14 ⟨rfl, hB'⟩
  have hB := hBa.trans (hB'.mono hBa.size)
  clear hBa hB' HU3
  have HW14 : Hid (Below w.heap.size w w14) := below_step HW13.out HW13.out.size hB
  have HG14 := hid_of (HG13.out.of_below hB)
  have HX14 := hid_of (HX13.out.below hB)
  clear HW13 HG13 HX13 hB
  have c0 : w14.cell? ⟨gb, 0, none⟩ = some (.int .i64 1) := HG14.out.cell rfl
  have c1 : w14.cell? ⟨gb, 1, none⟩ = some (.slice (some ⟨e, 0, none⟩) 4 4) := HG14.out.cell rfl
  have c2 : w14.cell? ⟨gb, 2, none⟩ = some (.slice (some ⟨p, 0, none⟩) 1 1) := HG14.out.cell rfl
  have c3 : w14.cell? ⟨gb, 3, none⟩ = some (.slice (some ⟨k, 0, none⟩) 1 1) := HG14.out.cell rfl
  have c4 : w14.cell? ⟨gb, 4, none⟩ = some (.slice none 0 0) := HG14.out.cell rfl
  have c5 : w14.cell? ⟨gb, 5, none⟩ = some (.slice none 0 0) := HG14.out.cell rfl
  have c6 : w14.cell? ⟨gb, 6, none⟩ = some (.slice none 0 0) := HG14.out.cell rfl
  have c7 : w14.cell? ⟨gb, 7, none⟩ = some (.slice none 0 0) := HG14.out.cell rfl
  go_wp2_with fail
  clear c0 c1 c2 c3 c4 c5 c6 c7
  refine (gThread_calls ⟨.slice (some ⟨e, 0, none⟩) 4 4, .slice (some ⟨p, 0, none⟩) 1 1, .slice (some ⟨k, 0, none⟩) 1 1, .slice none 0 0, .slice none 0 0, .slice none 0 0, .slice none 0 0⟩ exG 5 w14 (HGX.out w14 HX14.out)).mono ?_
  rintro r w15 ⟨u3, rfl, hu3, hB⟩
  rw [ex_thr5] at hu3
  obtain ⟨ua, uc, rfl⟩ := owns_len (n := 0) hu3
  clear hu3
  have HW15 : Hid (Below w.heap.size w w15) := below_step HW14.out HW14.out.size hB
  have HG15 := hid_of (HG14.out.of_below hB)
  have HX15 := hid_of (HX14.out.below hB)
  clear HW14 HG14 HX14 hB
  have c0 : w15.cell? ⟨gb, 0, none⟩ = some (.int .i64 1) := HG15.out.cell rfl
  have c1 : w15.cell? ⟨gb, 1, none⟩ = some (.slice (some ⟨e, 0, none⟩) 4 4) := HG15.out.cell rfl
  have c2 : w15.cell? ⟨gb, 2, none⟩ = some (.slice (some ⟨p, 0, none⟩) 1 1) := HG15.out.cell rfl
  have c3 : w15.cell? ⟨gb, 3, none⟩ = some (.slice (some ⟨k, 0, none⟩) 1 1) := HG15.out.cell rfl
  have c4 : w15.cell? ⟨gb, 4, none⟩ = some (.slice none 0 0) := HG15.out.cell rfl
  have c5 : w15.cell? ⟨gb, 5, none⟩ = some (.slice none 0 0) := HG15.out.cell rfl
  have c6 : w15.cell? ⟨gb, 6, none⟩ = some (.slice none 0 0) := HG15.out.cell rfl
  have c7 : w15.cell? ⟨gb, 7, none⟩ = some (.slice none 0 0) := HG15.out.cell rfl
  go_wp2_with fail
  clear c0 c1 c2 c3 c4 c5 c6 c7
  have hBa : Below w15.heap.size w15 (w15.alloc (.cells #[.int .i64 2, .int .i64 5] 3)) := (Below.refl _ _).alloc (Nat.le_refl _) _
  refine (gWith_calls ⟨.slice (some ⟨e, 0, none⟩) 4 4, .slice (some ⟨p, 0, none⟩) 1 1, .slice (some ⟨k, 0, none⟩) 1 1, .slice none 0 0, .slice none 0 0, .slice none 0 0, .slice none 0 0⟩ exG _ [2, 5] _ (HGX.out _ (HX15.out.below hBa)) (i_of (xs := [2, 5]) (Blk.new w15 3 #[.int .i64 2, .int .i64 5]) rfl) (by decide)).mono ?_
  rintro r w16 ⟨tb, rfl, htb, _, hB'⟩
  have HTB : Hid (ListR encB1 w16 (.slice (some ⟨tb, 0, none⟩) 4 4) [false, false, true, true]) := blk_list (l := [false, false, true, true]) htb
  have hB := hBa.trans (hB'.mono hBa.size)
  clear htb hB' hBa
  have HW16 : Hid (Below w.heap.size w w16) := below_step HW15.out HW15.out.size hB
  have HG16 := hid_of (HG15.out.of_below hB)
  have HX16 := hid_of (HX15.out.below hB)
  clear HW15 HG15 HX15 hB
  go_wp2_with fail
  have hBa : Below w16.heap.size w16 (w16.alloc (.cells #[.bool false, .bool false, .bool true, .bool true] 4)) := (Below.refl _ _).alloc (Nat.le_refl _) _
  refine (l8truths_calls _ _ [false, false, true, true] [false, false, true, true] _ (HTB.out.below hBa) (blk_list (enc := encB1) (l := [false, false, true, true]) (Blk.new w16 4 #[.bool false, .bool false, .bool true, .bool true])) (by decide)).mono ?_
  rintro r w17 ⟨rfl, hB'⟩
  have hB := hBa.trans (hB'.mono hBa.size)
  clear hBa hB' HTB
  have HW17 : Hid (Below w.heap.size w w17) := below_step HW16.out HW16.out.size hB
  have HG17 := hid_of (HG16.out.of_below hB)
  have HX17 := hid_of (HX16.out.below hB)
  clear HW16 HG16 HX16 hB
  have hgA : Blk (w17.alloc (.cells #[.int .i64 0, .int .i64 2] 39)) gb 26 #[.int .i64 1, .slice (some ⟨e, 0, none⟩) 4 4, .slice (some ⟨p, 0, none⟩) 1 1, .slice (some ⟨k, 0, none⟩) 1 1, .slice none 0 0, .slice none 0 0, .slice none 0 0, .slice none 0 0] := (HG17.out.alloc _)
  have hgB := hgA.set 2 (.slice (some ⟨w17.heap.size, 0, none⟩) 1 1)
  have hXA : ExL (w17.alloc (.cells #[.int .i64 0, .int .i64 2] 39)) e p l k exE2 := (HX17.out.alloc _)
  have hXB := hXA.setG hgA 2 (.slice (some ⟨w17.heap.size, 0, none⟩) 1 1)
  have hn0 : Blk (w17.alloc (.cells #[.int .i64 0, .int .i64 2] 39)) w17.heap.size 39 #[.int .i64 0, .int .i64 2] := Blk.new w17 39 #[.int .i64 0, .int .i64 2]
  have hN0 := hn0.setOther (a := ⟨gb, 2, none⟩) (blk_ne hn0 hgA (by decide)) (.slice (some ⟨w17.heap.size, 0, none⟩) 1 1)
  have o2 : (w17.alloc (.cells #[.int .i64 0, .int .i64 2] 39)).cell? ⟨gb, 2, none⟩ = some (.slice (some ⟨p, 0, none⟩) 1 1) := hgA.cell rfl
  have q2 : (w17.alloc (.cells #[.int .i64 0, .int .i64 2] 39)).frozen? ⟨gb, 2, none⟩ = false := hgA.frozen 2
  have hWB : Below w.heap.size w ((w17.alloc (.cells #[.int .i64 0, .int .i64 2] 39)).setCell ⟨gb, 2, none⟩ (.slice (some ⟨w17.heap.size, 0, none⟩) 1 1)) := ((HW17.out.alloc (by exact HW17.out.size) _)).setCell HGB.out _
  have c0 : ((w17.alloc (.cells #[.int .i64 0, .int .i64 2] 39)).setCell ⟨gb, 2, none⟩ (.slice (some ⟨w17.heap.size, 0, none⟩) 1 1)).cell? ⟨gb, 0, none⟩ = some (.int .i64 1) := hgB.cell rfl
  have c1 : ((w17.alloc (.cells #[.int .i64 0, .int .i64 2] 39)).setCell ⟨gb, 2, none⟩ (.slice (some ⟨w17.heap.size, 0, none⟩) 1 1)).cell? ⟨gb, 1, none⟩ = some (.slice (some ⟨e, 0, none⟩) 4 4) := hgB.cell rfl
  have c2 : ((w17.alloc (.cells #[.int .i64 0, .int .i64 2] 39)).setCell ⟨gb, 2, none⟩ (.slice (some ⟨w17.heap.size, 0, none⟩) 1 1)).cell? ⟨gb, 2, none⟩ = some (.slice (some ⟨w17.heap.size, 0, none⟩) 1 1) := hgB.cell rfl
  have c3 : ((w17.alloc (.cells #[.int .i64 0, .int .i64 2] 39)).setCell ⟨gb, 2, none⟩ (.slice (some ⟨w17.heap.size, 0, none⟩) 1 1)).cell? ⟨gb, 3, none⟩ = some (.slice (some ⟨k, 0, none⟩) 1 1) := hgB.cell rfl
  have c4 : ((w17.alloc (.cells #[.int .i64 0, .int .i64 2] 39)).setCell ⟨gb, 2, none⟩ (.slice (some ⟨w17.heap.size, 0, none⟩) 1 1)).cell? ⟨gb, 4, none⟩ = some (.slice none 0 0) := hgB.cell rfl
  have c5 : ((w17.alloc (.cells #[.int .i64 0, .int .i64 2] 39)).setCell ⟨gb, 2, none⟩ (.slice (some ⟨w17.heap.size, 0, none⟩) 1 1)).cell? ⟨gb, 5, none⟩ = some (.slice none 0 0) := hgB.cell rfl
  have c6 : ((w17.alloc (.cells #[.int .i64 0, .int .i64 2] 39)).setCell ⟨gb, 2, none⟩ (.slice (some ⟨w17.heap.size, 0, none⟩) 1 1)).cell? ⟨gb, 6, none⟩ = some (.slice none 0 0) := hgB.cell rfl
  have c7 : ((w17.alloc (.cells #[.int .i64 0, .int .i64 2] 39)).setCell ⟨gb, 2, none⟩ (.slice (some ⟨w17.heap.size, 0, none⟩) 1 1)).cell? ⟨gb, 7, none⟩ = some (.slice none 0 0) := hgB.cell rfl
  go_wp2_with fail
  refine (at_calls ⟨.slice (some ⟨e, 0, none⟩) 4 4, .slice (some ⟨w17.heap.size, 0, none⟩) 1 1, .slice (some ⟨k, 0, none⟩) 1 1, .slice none 0 0, .slice none 0 0, .slice none 0 0, .slice none 0 0⟩ k1 4 0 _ ⟨evArg_of (evs_x hXB.he) rfl (by decide) (by decide), p_one hN0, hXB.co, p_nil _, p_nil _, p_nil _, p_nil _⟩ (HF.out.step hWB) k1_chk).mono ?_
  rintro r w18 ⟨rfl, hB⟩
  have HW18 : Hid (Below w.heap.size w w18) := below_step hWB hWB.size hB
  have hgC : Blk w18 gb 26 #[.int .i64 1, .slice (some ⟨e, 0, none⟩) 4 4, .slice (some ⟨w17.heap.size, 0, none⟩) 1 1, .slice (some ⟨k, 0, none⟩) 1 1, .slice none 0 0, .slice none 0 0, .slice none 0 0, .slice none 0 0] := hgB.of_below hB
  have HX18 := hid_of (hXB.below hB)
  generalize hnb : w17.heap.size = nb18 at hgC
  have HG18 := hid_of hgC
  clear hgA hgB hXA hXB o2 q2 hWB hB HW17 HG17 HX17 c0 c1 c2 c3 c4 c5 c6 c7 hn0 hN0 hgC hnb
  have hgA : Blk w18 gb 26 #[.int .i64 1, .slice (some ⟨e, 0, none⟩) 4 4, .slice (some ⟨nb18, 0, none⟩) 1 1, .slice (some ⟨k, 0, none⟩) 1 1, .slice none 0 0, .slice none 0 0, .slice none 0 0, .slice none 0 0] := HG18.out
  have hgB := hgA.set 2 (.slice none 0 0)
  have hXA : ExL w18 e p l k exE2 := HX18.out
  have hXB := hXA.setG hgA 2 (.slice none 0 0)
  have o2 : w18.cell? ⟨gb, 2, none⟩ = some (.slice (some ⟨nb18, 0, none⟩) 1 1) := hgA.cell rfl
  have q2 : w18.frozen? ⟨gb, 2, none⟩ = false := hgA.frozen 2
  have hWB : Below w.heap.size w (w18.setCell ⟨gb, 2, none⟩ (.slice none 0 0)) := (HW18.out).setCell HGB.out _
  have c0 : (w18.setCell ⟨gb, 2, none⟩ (.slice none 0 0)).cell? ⟨gb, 0, none⟩ = some (.int .i64 1) := hgB.cell rfl
  have c1 : (w18.setCell ⟨gb, 2, none⟩ (.slice none 0 0)).cell? ⟨gb, 1, none⟩ = some (.slice (some ⟨e, 0, none⟩) 4 4) := hgB.cell rfl
  have c2 : (w18.setCell ⟨gb, 2, none⟩ (.slice none 0 0)).cell? ⟨gb, 2, none⟩ = some (.slice none 0 0) := hgB.cell rfl
  have c3 : (w18.setCell ⟨gb, 2, none⟩ (.slice none 0 0)).cell? ⟨gb, 3, none⟩ = some (.slice (some ⟨k, 0, none⟩) 1 1) := hgB.cell rfl
  have c4 : (w18.setCell ⟨gb, 2, none⟩ (.slice none 0 0)).cell? ⟨gb, 4, none⟩ = some (.slice none 0 0) := hgB.cell rfl
  have c5 : (w18.setCell ⟨gb, 2, none⟩ (.slice none 0 0)).cell? ⟨gb, 5, none⟩ = some (.slice none 0 0) := hgB.cell rfl
  have c6 : (w18.setCell ⟨gb, 2, none⟩ (.slice none 0 0)).cell? ⟨gb, 6, none⟩ = some (.slice none 0 0) := hgB.cell rfl
  have c7 : (w18.setCell ⟨gb, 2, none⟩ (.slice none 0 0)).cell? ⟨gb, 7, none⟩ = some (.slice none 0 0) := hgB.cell rfl
  go_wp2_with fail
  refine (at_calls ⟨.slice (some ⟨e, 0, none⟩) 4 4, .slice none 0 0, .slice (some ⟨k, 0, none⟩) 1 1, .slice none 0 0, .slice none 0 0, .slice none 0 0, .slice none 0 0⟩ k2 4 0 _ ⟨evArg_of (evs_x hXB.he) rfl (by decide) (by decide), p_nil _, hXB.co, p_nil _, p_nil _, p_nil _, p_nil _⟩ (HF.out.step hWB) k2_chk).mono ?_
  rintro r w19 ⟨rfl, hB⟩
  have HW19 : Hid (Below w.heap.size w w19) := below_step hWB hWB.size hB
  have HG19 : Hid (Blk w19 gb 26 #[.int .i64 1, .slice (some ⟨e, 0, none⟩) 4 4, .slice none 0 0, .slice (some ⟨k, 0, none⟩) 1 1, .slice none 0 0, .slice none 0 0, .slice none 0 0, .slice none 0 0]) := hgB.of_below hB
  have HX19 := hid_of (hXB.below hB)
  clear hgA hgB hXA hXB o2 q2 hWB hB HW18 HG18 HX18 c0 c1 c2 c3 c4 c5 c6 c7
  have hgA : Blk (w19.alloc (.cells #[.int .i64 1, .int .i64 2, .int .i64 1, .int .i64 2] 39)) gb 26 #[.int .i64 1, .slice (some ⟨e, 0, none⟩) 4 4, .slice none 0 0, .slice (some ⟨k, 0, none⟩) 1 1, .slice none 0 0, .slice none 0 0, .slice none 0 0, .slice none 0 0] := (HG19.out.alloc _)
  have hgB := hgA.set 2 (.slice (some ⟨w19.heap.size, 0, none⟩) 2 2)
  have hXA : ExL (w19.alloc (.cells #[.int .i64 1, .int .i64 2, .int .i64 1, .int .i64 2] 39)) e p l k exE2 := (HX19.out.alloc _)
  have hXB := hXA.setG hgA 2 (.slice (some ⟨w19.heap.size, 0, none⟩) 2 2)
  have hn0 : Blk (w19.alloc (.cells #[.int .i64 1, .int .i64 2, .int .i64 1, .int .i64 2] 39)) w19.heap.size 39 #[.int .i64 1, .int .i64 2, .int .i64 1, .int .i64 2] := Blk.new w19 39 #[.int .i64 1, .int .i64 2, .int .i64 1, .int .i64 2]
  have hN0 := hn0.setOther (a := ⟨gb, 2, none⟩) (blk_ne hn0 hgA (by decide)) (.slice (some ⟨w19.heap.size, 0, none⟩) 2 2)
  have o2 : (w19.alloc (.cells #[.int .i64 1, .int .i64 2, .int .i64 1, .int .i64 2] 39)).cell? ⟨gb, 2, none⟩ = some (.slice none 0 0) := hgA.cell rfl
  have q2 : (w19.alloc (.cells #[.int .i64 1, .int .i64 2, .int .i64 1, .int .i64 2] 39)).frozen? ⟨gb, 2, none⟩ = false := hgA.frozen 2
  have hWB : Below w.heap.size w ((w19.alloc (.cells #[.int .i64 1, .int .i64 2, .int .i64 1, .int .i64 2] 39)).setCell ⟨gb, 2, none⟩ (.slice (some ⟨w19.heap.size, 0, none⟩) 2 2)) := ((HW19.out.alloc (by exact HW19.out.size) _)).setCell HGB.out _
  have c0 : ((w19.alloc (.cells #[.int .i64 1, .int .i64 2, .int .i64 1, .int .i64 2] 39)).setCell ⟨gb, 2, none⟩ (.slice (some ⟨w19.heap.size, 0, none⟩) 2 2)).cell? ⟨gb, 0, none⟩ = some (.int .i64 1) := hgB.cell rfl
  have c1 : ((w19.alloc (.cells #[.int .i64 1, .int .i64 2, .int .i64 1, .int .i64 2] 39)).setCell ⟨gb, 2, none⟩ (.slice (some ⟨w19.heap.size, 0, none⟩) 2 2)).cell? ⟨gb, 1, none⟩ = some (.slice (some ⟨e, 0, none⟩) 4 4) := hgB.cell rfl
  have c2 : ((w19.alloc (.cells #[.int .i64 1, .int .i64 2, .int .i64 1, .int .i64 2] 39)).setCell ⟨gb, 2, none⟩ (.slice (some ⟨w19.heap.size, 0, none⟩) 2 2)).cell? ⟨gb, 2, none⟩ = some (.slice (some ⟨w19.heap.size, 0, none⟩) 2 2) := hgB.cell rfl
  have c3 : ((w19.alloc (.cells #[.int .i64 1, .int .i64 2, .int .i64 1, .int .i64 2] 39)).setCell ⟨gb, 2, none⟩ (.slice (some ⟨w19.heap.size, 0, none⟩) 2 2)).cell? ⟨gb, 3, none⟩ = some (.slice (some ⟨k, 0, none⟩) 1 1) := hgB.cell rfl
  have c4 : ((w19.alloc (.cells #[.int .i64 1, .int .i64 2, .int .i64 1, .int .i64 2] 39)).setCell ⟨gb, 2, none⟩ (.slice (some ⟨w19.heap.size, 0, none⟩) 2 2)).cell? ⟨gb, 4, none⟩ = some (.slice none 0 0) := hgB.cell rfl
  have c5 : ((w19.alloc (.cells #[.int .i64 1, .int .i64 2, .int .i64 1, .int .i64 2] 39)).setCell ⟨gb, 2, none⟩ (.slice (some ⟨w19.heap.size, 0, none⟩) 2 2)).cell? ⟨gb, 5, none⟩ = some (.slice none 0 0) := hgB.cell rfl
  have c6 : ((w19.alloc (.cells #[.int .i64 1, .int .i64 2, .int .i64 1, .int .i64 2] 39)).setCell ⟨gb, 2, none⟩ (.slice (some ⟨w19.heap.size, 0, none⟩) 2 2)).cell? ⟨gb, 6, none⟩ = some (.slice none 0 0) := hgB.cell rfl
  have c7 : ((w19.alloc (.cells #[.int .i64 1, .int .i64 2, .int .i64 1, .int .i64 2] 39)).setCell ⟨gb, 2, none⟩ (.slice (some ⟨w19.heap.size, 0, none⟩) 2 2)).cell? ⟨gb, 7, none⟩ = some (.slice none 0 0) := hgB.cell rfl
  go_wp2_with fail
  refine (at_calls ⟨.slice (some ⟨e, 0, none⟩) 4 4, .slice (some ⟨w19.heap.size, 0, none⟩) 2 2, .slice (some ⟨k, 0, none⟩) 1 1, .slice none 0 0, .slice none 0 0, .slice none 0 0, .slice none 0 0⟩ k3 4 1 _ ⟨evArg_of (evs_x hXB.he) rfl (by decide) (by decide), p_two hN0, hXB.co, p_nil _, p_nil _, p_nil _, p_nil _⟩ (HF.out.step hWB) k3_chk).mono ?_
  rintro r w20 ⟨rfl, hB⟩
  have HW20 : Hid (Below w.heap.size w w20) := below_step hWB hWB.size hB
  have hgC : Blk w20 gb 26 #[.int .i64 1, .slice (some ⟨e, 0, none⟩) 4 4, .slice (some ⟨w19.heap.size, 0, none⟩) 2 2, .slice (some ⟨k, 0, none⟩) 1 1, .slice none 0 0, .slice none 0 0, .slice none 0 0, .slice none 0 0] := hgB.of_below hB
  have HX20 := hid_of (hXB.below hB)
  generalize hnb : w19.heap.size = nb20 at hgC
  have HG20 := hid_of hgC
  clear hgA hgB hXA hXB o2 q2 hWB hB HW19 HG19 HX19 c0 c1 c2 c3 c4 c5 c6 c7 hn0 hN0 hgC hnb
  go_wp2_with fail
  refine (example2_calls w20).mono ?_
  rintro r w21 ⟨e, p, l, k, rfl, hX, hB, hE0⟩
  have HEB : Hid (w.heap.size ≤ e) := Nat.le_trans HW20.out.size hE0
  clear hE0
  have hg := HG20.out.of_below hB
  have hW := below_step HW20.out HW20.out.size hB
  have hall : (exA e p k).all (·.oneCell') = true := by simp [exA, Value.oneCell']
  have hgB := hg.setRow' (exA e p k)
  have hXB := hX.rowG hg (exA e p k)
  have hWB : Below w.heap.size w (w21.setRow gb (exA e p k)) := hW.trans (below_row _ HGB.out)
  clear HG20 HX20 HW20 hB hX hW
  go_upto_region 16 with (first | refine wpList_store_row rfl 26 _ _ rfl gb (exA e p k) rfl rfl 26 _ hg (by kernel_rfl) rfl hall ?_)
  generalize hwq : w21.setRow gb (exA e p k) = w22 at *
  have HW22 := hid_of hWB
  have HG22 := hid_of hgB
  have HX22 := hid_of hXB
  clear hwq hg hall hgB hXB hWB
  have hgA : Blk ((w22.alloc (.cells #[.int .i64 1, .int .i64 0] 3)).alloc (.cells #[.slice (some ⟨w22.heap.size, 0, none⟩) 2 2] 42)) gb 26 #[.int .i64 1, .slice (some ⟨e, 0, none⟩) 4 4, .slice (some ⟨p, 0, none⟩) 1 1, .slice (some ⟨k, 0, none⟩) 1 1, .slice none 0 0, .slice none 0 0, .slice none 0 0, .slice none 0 0] := ((HG22.out.alloc _).alloc _)
  have hgB := hgA.set 3 (.slice (some ⟨(w22.heap.size + 1), 0, none⟩) 1 1)
  have hXA : ExL ((w22.alloc (.cells #[.int .i64 1, .int .i64 0] 3)).alloc (.cells #[.slice (some ⟨w22.heap.size, 0, none⟩) 2 2] 42)) e p l k exE2 := ((HX22.out.alloc _).alloc _)
  have hXB := hXA.setG hgA 3 (.slice (some ⟨(w22.heap.size + 1), 0, none⟩) 1 1)
  have hn0 : Blk ((w22.alloc (.cells #[.int .i64 1, .int .i64 0] 3)).alloc (.cells #[.slice (some ⟨w22.heap.size, 0, none⟩) 2 2] 42)) w22.heap.size 3 #[.int .i64 1, .int .i64 0] := (Blk.new w22 3 #[.int .i64 1, .int .i64 0]).alloc _
  have hN0 := hn0.setOther (a := ⟨gb, 3, none⟩) (blk_ne hn0 hgA (by decide)) (.slice (some ⟨(w22.heap.size + 1), 0, none⟩) 1 1)
  have hn1 : Blk ((w22.alloc (.cells #[.int .i64 1, .int .i64 0] 3)).alloc (.cells #[.slice (some ⟨w22.heap.size, 0, none⟩) 2 2] 42)) (w22.heap.size + 1) 42 #[.slice (some ⟨w22.heap.size, 0, none⟩) 2 2] := Blk.new2 w22 _ 42 #[.slice (some ⟨w22.heap.size, 0, none⟩) 2 2]
  have hN1 := hn1.setOther (a := ⟨gb, 3, none⟩) (blk_ne hn1 hgA (by decide)) (.slice (some ⟨(w22.heap.size + 1), 0, none⟩) 1 1)
  have o3 : ((w22.alloc (.cells #[.int .i64 1, .int .i64 0] 3)).alloc (.cells #[.slice (some ⟨w22.heap.size, 0, none⟩) 2 2] 42)).cell? ⟨gb, 3, none⟩ = some (.slice (some ⟨k, 0, none⟩) 1 1) := hgA.cell rfl
  have q3 : ((w22.alloc (.cells #[.int .i64 1, .int .i64 0] 3)).alloc (.cells #[.slice (some ⟨w22.heap.size, 0, none⟩) 2 2] 42)).frozen? ⟨gb, 3, none⟩ = false := hgA.frozen 3
  have hWB : Below w.heap.size w (((w22.alloc (.cells #[.int .i64 1, .int .i64 0] 3)).alloc (.cells #[.slice (some ⟨w22.heap.size, 0, none⟩) 2 2] 42)).setCell ⟨gb, 3, none⟩ (.slice (some ⟨(w22.heap.size + 1), 0, none⟩) 1 1)) := (((HW22.out.alloc (by exact HW22.out.size) _).alloc (by have := HW22.out.size; simp; omega) _)).setCell HGB.out _
  have c0 : (((w22.alloc (.cells #[.int .i64 1, .int .i64 0] 3)).alloc (.cells #[.slice (some ⟨w22.heap.size, 0, none⟩) 2 2] 42)).setCell ⟨gb, 3, none⟩ (.slice (some ⟨(w22.heap.size + 1), 0, none⟩) 1 1)).cell? ⟨gb, 0, none⟩ = some (.int .i64 1) := hgB.cell rfl
  have c1 : (((w22.alloc (.cells #[.int .i64 1, .int .i64 0] 3)).alloc (.cells #[.slice (some ⟨w22.heap.size, 0, none⟩) 2 2] 42)).setCell ⟨gb, 3, none⟩ (.slice (some ⟨(w22.heap.size + 1), 0, none⟩) 1 1)).cell? ⟨gb, 1, none⟩ = some (.slice (some ⟨e, 0, none⟩) 4 4) := hgB.cell rfl
  have c2 : (((w22.alloc (.cells #[.int .i64 1, .int .i64 0] 3)).alloc (.cells #[.slice (some ⟨w22.heap.size, 0, none⟩) 2 2] 42)).setCell ⟨gb, 3, none⟩ (.slice (some ⟨(w22.heap.size + 1), 0, none⟩) 1 1)).cell? ⟨gb, 2, none⟩ = some (.slice (some ⟨p, 0, none⟩) 1 1) := hgB.cell rfl
  have c3 : (((w22.alloc (.cells #[.int .i64 1, .int .i64 0] 3)).alloc (.cells #[.slice (some ⟨w22.heap.size, 0, none⟩) 2 2] 42)).setCell ⟨gb, 3, none⟩ (.slice (some ⟨(w22.heap.size + 1), 0, none⟩) 1 1)).cell? ⟨gb, 3, none⟩ = some (.slice (some ⟨(w22.heap.size + 1), 0, none⟩) 1 1) := hgB.cell rfl
  have c4 : (((w22.alloc (.cells #[.int .i64 1, .int .i64 0] 3)).alloc (.cells #[.slice (some ⟨w22.heap.size, 0, none⟩) 2 2] 42)).setCell ⟨gb, 3, none⟩ (.slice (some ⟨(w22.heap.size + 1), 0, none⟩) 1 1)).cell? ⟨gb, 4, none⟩ = some (.slice none 0 0) := hgB.cell rfl
  have c5 : (((w22.alloc (.cells #[.int .i64 1, .int .i64 0] 3)).alloc (.cells #[.slice (some ⟨w22.heap.size, 0, none⟩) 2 2] 42)).setCell ⟨gb, 3, none⟩ (.slice (some ⟨(w22.heap.size + 1), 0, none⟩) 1 1)).cell? ⟨gb, 5, none⟩ = some (.slice none 0 0) := hgB.cell rfl
  have c6 : (((w22.alloc (.cells #[.int .i64 1, .int .i64 0] 3)).alloc (.cells #[.slice (some ⟨w22.heap.size, 0, none⟩) 2 2] 42)).setCell ⟨gb, 3, none⟩ (.slice (some ⟨(w22.heap.size + 1), 0, none⟩) 1 1)).cell? ⟨gb, 6, none⟩ = some (.slice none 0 0) := hgB.cell rfl
  have c7 : (((w22.alloc (.cells #[.int .i64 1, .int .i64 0] 3)).alloc (.cells #[.slice (some ⟨w22.heap.size, 0, none⟩) 2 2] 42)).setCell ⟨gb, 3, none⟩ (.slice (some ⟨(w22.heap.size + 1), 0, none⟩) 1 1)).cell? ⟨gb, 7, none⟩ = some (.slice none 0 0) := hgB.cell rfl
  go_wp2_with fail
  refine (at_calls ⟨.slice (some ⟨e, 0, none⟩) 4 4, .slice (some ⟨p, 0, none⟩) 1 1, .slice (some ⟨(w22.heap.size + 1), 0, none⟩) 1 1, .slice none 0 0, .slice none 0 0, .slice none 0 0, .slice none 0 0⟩ k4 5 0 _ ⟨evArg_of (evs_x hXB.he) rfl (by decide) (by decide), p_one hXB.hp, co_one hN1 (i_of (xs := [1, 0]) hN0 rfl) rfl (by decide), p_nil _, p_nil _, p_nil _, p_nil _⟩ (HF.out.step hWB) k4_chk).mono ?_
  rintro r w23 ⟨rfl, hB⟩
  have HW23 : Hid (Below w.heap.size w w23) := below_step hWB hWB.size hB
  have hgC : Blk w23 gb 26 #[.int .i64 1, .slice (some ⟨e, 0, none⟩) 4 4, .slice (some ⟨p, 0, none⟩) 1 1, .slice (some ⟨(w22.heap.size + 1), 0, none⟩) 1 1, .slice none 0 0, .slice none 0 0, .slice none 0 0, .slice none 0 0] := hgB.of_below hB
  have HX23 := hid_of (hXB.below hB)
  generalize hnb : w22.heap.size = nb23 at hgC
  have HG23 := hid_of hgC
  clear hgA hgB hXA hXB o3 q3 hWB hB HW22 HG22 HX22 c0 c1 c2 c3 c4 c5 c6 c7 hn0 hN0 hn1 hN1 hgC hnb
  have hgA : Blk w23 gb 26 #[.int .i64 1, .slice (some ⟨e, 0, none⟩) 4 4, .slice (some ⟨p, 0, none⟩) 1 1, .slice (some ⟨(nb23 + 1), 0, none⟩) 1 1, .slice none 0 0, .slice none 0 0, .slice none 0 0, .slice none 0 0] := HG23.out
  have hgB := hgA.set 3 (.slice none 0 0)
  have hXA : ExL w23 e p l k exE2 := HX23.out
  have hXB := hXA.setG hgA 3 (.slice none 0 0)
  have o3 : w23.cell? ⟨gb, 3, none⟩ = some (.slice (some ⟨(nb23 + 1), 0, none⟩) 1 1) := hgA.cell rfl
  have q3 : w23.frozen? ⟨gb, 3, none⟩ = false := hgA.frozen 3
  have hWB : Below w.heap.size w (w23.setCell ⟨gb, 3, none⟩ (.slice none 0 0)) := (HW23.out).setCell HGB.out _
  have c0 : (w23.setCell ⟨gb, 3, none⟩ (.slice none 0 0)).cell? ⟨gb, 0, none⟩ = some (.int .i64 1) := hgB.cell rfl
  have c1 : (w23.setCell ⟨gb, 3, none⟩ (.slice none 0 0)).cell? ⟨gb, 1, none⟩ = some (.slice (some ⟨e, 0, none⟩) 4 4) := hgB.cell rfl
  have c2 : (w23.setCell ⟨gb, 3, none⟩ (.slice none 0 0)).cell? ⟨gb, 2, none⟩ = some (.slice (some ⟨p, 0, none⟩) 1 1) := hgB.cell rfl
  have c3 : (w23.setCell ⟨gb, 3, none⟩ (.slice none 0 0)).cell? ⟨gb, 3, none⟩ = some (.slice none 0 0) := hgB.cell rfl
  have c4 : (w23.setCell ⟨gb, 3, none⟩ (.slice none 0 0)).cell? ⟨gb, 4, none⟩ = some (.slice none 0 0) := hgB.cell rfl
  have c5 : (w23.setCell ⟨gb, 3, none⟩ (.slice none 0 0)).cell? ⟨gb, 5, none⟩ = some (.slice none 0 0) := hgB.cell rfl
  have c6 : (w23.setCell ⟨gb, 3, none⟩ (.slice none 0 0)).cell? ⟨gb, 6, none⟩ = some (.slice none 0 0) := hgB.cell rfl
  have c7 : (w23.setCell ⟨gb, 3, none⟩ (.slice none 0 0)).cell? ⟨gb, 7, none⟩ = some (.slice none 0 0) := hgB.cell rfl
  go_wp2_with fail
  refine (at_calls ⟨.slice (some ⟨e, 0, none⟩) 4 4, .slice (some ⟨p, 0, none⟩) 1 1, .slice none 0 0, .slice none 0 0, .slice none 0 0, .slice none 0 0, .slice none 0 0⟩ k5 5 0 _ ⟨evArg_of (evs_x hXB.he) rfl (by decide) (by decide), p_one hXB.hp, co_nil _, p_nil _, p_nil _, p_nil _, p_nil _⟩ (HF.out.step hWB) k5_chk).mono ?_
  rintro r w24 ⟨rfl, hB⟩
  have HW24 : Hid (Below w.heap.size w w24) := below_step hWB hWB.size hB
  have HG24 : Hid (Blk w24 gb 26 #[.int .i64 1, .slice (some ⟨e, 0, none⟩) 4 4, .slice (some ⟨p, 0, none⟩) 1 1, .slice none 0 0, .slice none 0 0, .slice none 0 0, .slice none 0 0, .slice none 0 0]) := hgB.of_below hB
  have HX24 := hid_of (hXB.below hB)
  clear hgA hgB hXA hXB o3 q3 hWB hB HW23 HG23 HX23 c0 c1 c2 c3 c4 c5 c6 c7
  have hgA : Blk ((w24.alloc (.cells #[.int .i64 0, .int .i64 1] 3)).alloc (.cells #[.slice (some ⟨w24.heap.size, 0, none⟩) 2 2, .slice none 0 0] 42)) gb 26 #[.int .i64 1, .slice (some ⟨e, 0, none⟩) 4 4, .slice (some ⟨p, 0, none⟩) 1 1, .slice none 0 0, .slice none 0 0, .slice none 0 0, .slice none 0 0, .slice none 0 0] := ((HG24.out.alloc _).alloc _)
  have hgB := hgA.set 3 (.slice (some ⟨(w24.heap.size + 1), 0, none⟩) 2 2)
  have hXA : ExL ((w24.alloc (.cells #[.int .i64 0, .int .i64 1] 3)).alloc (.cells #[.slice (some ⟨w24.heap.size, 0, none⟩) 2 2, .slice none 0 0] 42)) e p l k exE2 := ((HX24.out.alloc _).alloc _)
  have hXB := hXA.setG hgA 3 (.slice (some ⟨(w24.heap.size + 1), 0, none⟩) 2 2)
  have hn0 : Blk ((w24.alloc (.cells #[.int .i64 0, .int .i64 1] 3)).alloc (.cells #[.slice (some ⟨w24.heap.size, 0, none⟩) 2 2, .slice none 0 0] 42)) w24.heap.size 3 #[.int .i64 0, .int .i64 1] := (Blk.new w24 3 #[.int .i64 0, .int .i64 1]).alloc _
  have hN0 := hn0.setOther (a := ⟨gb, 3, none⟩) (blk_ne hn0 hgA (by decide)) (.slice (some ⟨(w24.heap.size + 1), 0, none⟩) 2 2)
  have hn1 : Blk ((w24.alloc (.cells #[.int .i64 0, .int .i64 1] 3)).alloc (.cells #[.slice (some ⟨w24.heap.size, 0, none⟩) 2 2, .slice none 0 0] 42)) (w24.heap.size + 1) 42 #[.slice (some ⟨w24.heap.size, 0, none⟩) 2 2, .slice none 0 0] := Blk.new2 w24 _ 42 #[.slice (some ⟨w24.heap.size, 0, none⟩) 2 2, .slice none 0 0]
  have hN1 := hn1.setOther (a := ⟨gb, 3, none⟩) (blk_ne hn1 hgA (by decide)) (.slice (some ⟨(w24.heap.size + 1), 0, none⟩) 2 2)
  have o3 : ((w24.alloc (.cells #[.int .i64 0, .int .i64 1] 3)).alloc (.cells #[.slice (some ⟨w24.heap.size, 0, none⟩) 2 2, .slice none 0 0] 42)).cell? ⟨gb, 3, none⟩ = some (.slice none 0 0) := hgA.cell rfl
  have q3 : ((w24.alloc (.cells #[.int .i64 0, .int .i64 1] 3)).alloc (.cells #[.slice (some ⟨w24.heap.size, 0, none⟩) 2 2, .slice none 0 0] 42)).frozen? ⟨gb, 3, none⟩ = false := hgA.frozen 3
  have hWB : Below w.heap.size w (((w24.alloc (.cells #[.int .i64 0, .int .i64 1] 3)).alloc (.cells #[.slice (some ⟨w24.heap.size, 0, none⟩) 2 2, .slice none 0 0] 42)).setCell ⟨gb, 3, none⟩ (.slice (some ⟨(w24.heap.size + 1), 0, none⟩) 2 2)) := (((HW24.out.alloc (by exact HW24.out.size) _).alloc (by have := HW24.out.size; simp; omega) _)).setCell HGB.out _
  have c0 : (((w24.alloc (.cells #[.int .i64 0, .int .i64 1] 3)).alloc (.cells #[.slice (some ⟨w24.heap.size, 0, none⟩) 2 2, .slice none 0 0] 42)).setCell ⟨gb, 3, none⟩ (.slice (some ⟨(w24.heap.size + 1), 0, none⟩) 2 2)).cell? ⟨gb, 0, none⟩ = some (.int .i64 1) := hgB.cell rfl
  have c1 : (((w24.alloc (.cells #[.int .i64 0, .int .i64 1] 3)).alloc (.cells #[.slice (some ⟨w24.heap.size, 0, none⟩) 2 2, .slice none 0 0] 42)).setCell ⟨gb, 3, none⟩ (.slice (some ⟨(w24.heap.size + 1), 0, none⟩) 2 2)).cell? ⟨gb, 1, none⟩ = some (.slice (some ⟨e, 0, none⟩) 4 4) := hgB.cell rfl
  have c2 : (((w24.alloc (.cells #[.int .i64 0, .int .i64 1] 3)).alloc (.cells #[.slice (some ⟨w24.heap.size, 0, none⟩) 2 2, .slice none 0 0] 42)).setCell ⟨gb, 3, none⟩ (.slice (some ⟨(w24.heap.size + 1), 0, none⟩) 2 2)).cell? ⟨gb, 2, none⟩ = some (.slice (some ⟨p, 0, none⟩) 1 1) := hgB.cell rfl
  have c3 : (((w24.alloc (.cells #[.int .i64 0, .int .i64 1] 3)).alloc (.cells #[.slice (some ⟨w24.heap.size, 0, none⟩) 2 2, .slice none 0 0] 42)).setCell ⟨gb, 3, none⟩ (.slice (some ⟨(w24.heap.size + 1), 0, none⟩) 2 2)).cell? ⟨gb, 3, none⟩ = some (.slice (some ⟨(w24.heap.size + 1), 0, none⟩) 2 2) := hgB.cell rfl
  have c4 : (((w24.alloc (.cells #[.int .i64 0, .int .i64 1] 3)).alloc (.cells #[.slice (some ⟨w24.heap.size, 0, none⟩) 2 2, .slice none 0 0] 42)).setCell ⟨gb, 3, none⟩ (.slice (some ⟨(w24.heap.size + 1), 0, none⟩) 2 2)).cell? ⟨gb, 4, none⟩ = some (.slice none 0 0) := hgB.cell rfl
  have c5 : (((w24.alloc (.cells #[.int .i64 0, .int .i64 1] 3)).alloc (.cells #[.slice (some ⟨w24.heap.size, 0, none⟩) 2 2, .slice none 0 0] 42)).setCell ⟨gb, 3, none⟩ (.slice (some ⟨(w24.heap.size + 1), 0, none⟩) 2 2)).cell? ⟨gb, 5, none⟩ = some (.slice none 0 0) := hgB.cell rfl
  have c6 : (((w24.alloc (.cells #[.int .i64 0, .int .i64 1] 3)).alloc (.cells #[.slice (some ⟨w24.heap.size, 0, none⟩) 2 2, .slice none 0 0] 42)).setCell ⟨gb, 3, none⟩ (.slice (some ⟨(w24.heap.size + 1), 0, none⟩) 2 2)).cell? ⟨gb, 6, none⟩ = some (.slice none 0 0) := hgB.cell rfl
  have c7 : (((w24.alloc (.cells #[.int .i64 0, .int .i64 1] 3)).alloc (.cells #[.slice (some ⟨w24.heap.size, 0, none⟩) 2 2, .slice none 0 0] 42)).setCell ⟨gb, 3, none⟩ (.slice (some ⟨(w24.heap.size + 1), 0, none⟩) 2 2)).cell? ⟨gb, 7, none⟩ = some (.slice none 0 0) := hgB.cell rfl
  go_wp2_with fail
  refine (at_calls ⟨.slice (some ⟨e, 0, none⟩) 4 4, .slice (some ⟨p, 0, none⟩) 1 1, .slice (some ⟨(w24.heap.size + 1), 0, none⟩) 2 2, .slice none 0 0, .slice none 0 0, .slice none 0 0, .slice none 0 0⟩ k6 5 1 _ ⟨evArg_of (evs_x hXB.he) rfl (by decide) (by decide), p_one hXB.hp, co_two hN1 (i_of (xs := [0, 1]) hN0 rfl), p_nil _, p_nil _, p_nil _, p_nil _⟩ (HF.out.step hWB) k6_chk).mono ?_
  rintro r w25 ⟨rfl, hB⟩
  have HW25 : Hid (Below w.heap.size w w25) := below_step hWB hWB.size hB
  have hgC : Blk w25 gb 26 #[.int .i64 1, .slice (some ⟨e, 0, none⟩) 4 4, .slice (some ⟨p, 0, none⟩) 1 1, .slice (some ⟨(w24.heap.size + 1), 0, none⟩) 2 2, .slice none 0 0, .slice none 0 0, .slice none 0 0, .slice none 0 0] := hgB.of_below hB
  have HX25 := hid_of (hXB.below hB)
  generalize hnb : w24.heap.size = nb25 at hgC
  have HG25 := hid_of hgC
  clear hgA hgB hXA hXB o3 q3 hWB hB HW24 HG24 HX24 c0 c1 c2 c3 c4 c5 c6 c7 hn0 hN0 hn1 hN1 hgC hnb
  go_wp2_with fail
  refine (example2_calls w25).mono ?_
  rintro r w26 ⟨e, p, l, k, rfl, hX, hB, hE0⟩
  have HEB : Hid (w.heap.size ≤ e) := Nat.le_trans HW25.out.size hE0
  clear hE0
  have hg := HG25.out.of_below hB
  have hW := below_step HW25.out HW25.out.size hB
  have hall : (exA e p k).all (·.oneCell') = true := by simp [exA, Value.oneCell']
  have hgB := hg.setRow' (exA e p k)
  have hXB := hX.rowG hg (exA e p k)
  have hWB : Below w.heap.size w (w26.setRow gb (exA e p k)) := hW.trans (below_row _ HGB.out)
  clear HG25 HX25 HW25 hB hX hW
  go_upto_region 23 with (first | refine wpList_store_row rfl 26 _ _ rfl gb (exA e p k) rfl rfl 26 _ hg (by kernel_rfl) rfl hall ?_)
  generalize hwq : w26.setRow gb (exA e p k) = w27 at *
  have HW27 := hid_of hWB
  have HG27 := hid_of hgB
  have HX27 := hid_of hXB
  clear hwq hg hall hgB hXB hWB
  have c1 : w27.cell? ⟨gb, 1, none⟩ = some (.slice (some ⟨e, 0, none⟩) 4 4) := HG27.out.cell rfl
  have oe : w27.cell? ⟨e, 19, none⟩ = some (.int .i64 5) := HX27.out.he.cell rfl
  have qe : w27.frozen? ⟨e, 19, none⟩ = false := HX27.out.he.frozen 19
  have hgB := HG27.out.setOther (a := ⟨e, 19, none⟩) (blk_ne HG27.out HX27.out.he (by decide)) (.int .i64 1)
  have hXB : ExL (w27.setCell ⟨e, 19, none⟩ (.int .i64 1)) e p l k exE7 := HX27.out.setE 19 (.int .i64 1)
  have hWB : Below w.heap.size w (w27.setCell ⟨e, 19, none⟩ (.int .i64 1)) := HW27.out.setCell HEB.out _
  go_upto_region 24 with fail
  generalize hwq : w27.setCell ⟨e, 19, none⟩ (.int .i64 1) = w28 at *
  have HW28 := hid_of hWB
  have HG28 := hid_of hgB
  have HX28 := hid_of hXB
  clear hwq c1 oe qe hgB hXB hWB HW27 HG27 HX27
  have c0 : w28.cell? ⟨gb, 0, none⟩ = some (.int .i64 1) := HG28.out.cell rfl
  have c1 : w28.cell? ⟨gb, 1, none⟩ = some (.slice (some ⟨e, 0, none⟩) 4 4) := HG28.out.cell rfl
  have c2 : w28.cell? ⟨gb, 2, none⟩ = some (.slice (some ⟨p, 0, none⟩) 1 1) := HG28.out.cell rfl
  have c3 : w28.cell? ⟨gb, 3, none⟩ = some (.slice (some ⟨k, 0, none⟩) 1 1) := HG28.out.cell rfl
  have c4 : w28.cell? ⟨gb, 4, none⟩ = some (.slice none 0 0) := HG28.out.cell rfl
  have c5 : w28.cell? ⟨gb, 5, none⟩ = some (.slice none 0 0) := HG28.out.cell rfl
  have c6 : w28.cell? ⟨gb, 6, none⟩ = some (.slice none 0 0) := HG28.out.cell rfl
  have c7 : w28.cell? ⟨gb, 7, none⟩ = some (.slice none 0 0) := HG28.out.cell rfl
  go_wp2_with fail
  clear c0 c1 c2 c3 c4 c5 c6 c7
  refine (at_calls ⟨.slice (some ⟨e, 0, none⟩) 4 4, .slice (some ⟨p, 0, none⟩) 1 1, .slice (some ⟨k, 0, none⟩) 1 1, .slice none 0 0, .slice none 0 0, .slice none 0 0, .slice none 0 0⟩ k7 3 3 _ ⟨evArg_of (evs_7 HX28.out.he) rfl (by decide) (by decide), p_one HX28.out.hp, HX28.out.co, p_nil _, p_nil _, p_nil _, p_nil _⟩ (HF.out.step HW28.out) k7_chk).mono ?_
  rintro r w29 ⟨rfl, hB⟩
  have HW29 : Hid (Below w.heap.size w w29) := below_step HW28.out HW28.out.size hB
  have HG29 := hid_of (HG28.out.of_below hB)
  have HX29 := hid_of (HX28.out.below hB)
  clear hB HW28 HG28 HX28
  go_wp2_with fail
  refine (example2_calls w29).mono ?_
  rintro r w30 ⟨e, p, l, k, rfl, hX, hB, hE0⟩
  have HEB : Hid (w.heap.size ≤ e) := Nat.le_trans HW29.out.size hE0
  clear hE0
  have hg := HG29.out.of_below hB
  have hW := below_step HW29.out HW29.out.size hB
  have hall : (exA e p k).all (·.oneCell') = true := by simp [exA, Value.oneCell']
  have hgB := hg.setRow' (exA e p k)
  have hXB := hX.rowG hg (exA e p k)
  have hWB : Below w.heap.size w (w30.setRow gb (exA e p k)) := hW.trans (below_row _ HGB.out)
  clear HG29 HX29 HW29 hB hX hW
  go_upto_region 26 with (first | refine wpList_store_row rfl 26 _ _ rfl gb (exA e p k) rfl rfl 26 _ hg (by kernel_rfl) rfl hall ?_)
  generalize hwq : w30.setRow gb (exA e p k) = w31 at *
  have HW31 := hid_of hWB
  have HG31 := hid_of hgB
  have HX31 := hid_of hXB
  clear hwq hg hall hgB hXB hWB
  have hgA : Blk (w31.alloc (.cells #[.int .i64 2, .int .i64 3] 39)) gb 26 #[.int .i64 1, .slice (some ⟨e, 0, none⟩) 4 4, .slice (some ⟨p, 0, none⟩) 1 1, .slice (some ⟨k, 0, none⟩) 1 1, .slice none 0 0, .slice none 0 0, .slice none 0 0, .slice none 0 0] := (HG31.out.alloc _)
  have hgB := hgA.set 4 (.slice (some ⟨w31.heap.size, 0, none⟩) 1 1)
  have hXA : ExL (w31.alloc (.cells #[.int .i64 2, .int .i64 3] 39)) e p l k exE2 := (HX31.out.alloc _)
  have hXB := hXA.setG hgA 4 (.slice (some ⟨w31.heap.size, 0, none⟩) 1 1)
  have hn0 : Blk (w31.alloc (.cells #[.int .i64 2, .int .i64 3] 39)) w31.heap.size 39 #[.int .i64 2, .int .i64 3] := Blk.new w31 39 #[.int .i64 2, .int .i64 3]
  have hN0 := hn0.setOther (a := ⟨gb, 4, none⟩) (blk_ne hn0 hgA (by decide)) (.slice (some ⟨w31.heap.size, 0, none⟩) 1 1)
  have o4 : (w31.alloc (.cells #[.int .i64 2, .int .i64 3] 39)).cell? ⟨gb, 4, none⟩ = some (.slice none 0 0) := hgA.cell rfl
  have q4 : (w31.alloc (.cells #[.int .i64 2, .int .i64 3] 39)).frozen? ⟨gb, 4, none⟩ = false := hgA.frozen 4
  have hWB : Below w.heap.size w ((w31.alloc (.cells #[.int .i64 2, .int .i64 3] 39)).setCell ⟨gb, 4, none⟩ (.slice (some ⟨w31.heap.size, 0, none⟩) 1 1)) := ((HW31.out.alloc (by exact HW31.out.size) _)).setCell HGB.out _
  have c0 : ((w31.alloc (.cells #[.int .i64 2, .int .i64 3] 39)).setCell ⟨gb, 4, none⟩ (.slice (some ⟨w31.heap.size, 0, none⟩) 1 1)).cell? ⟨gb, 0, none⟩ = some (.int .i64 1) := hgB.cell rfl
  have c1 : ((w31.alloc (.cells #[.int .i64 2, .int .i64 3] 39)).setCell ⟨gb, 4, none⟩ (.slice (some ⟨w31.heap.size, 0, none⟩) 1 1)).cell? ⟨gb, 1, none⟩ = some (.slice (some ⟨e, 0, none⟩) 4 4) := hgB.cell rfl
  have c2 : ((w31.alloc (.cells #[.int .i64 2, .int .i64 3] 39)).setCell ⟨gb, 4, none⟩ (.slice (some ⟨w31.heap.size, 0, none⟩) 1 1)).cell? ⟨gb, 2, none⟩ = some (.slice (some ⟨p, 0, none⟩) 1 1) := hgB.cell rfl
  have c3 : ((w31.alloc (.cells #[.int .i64 2, .int .i64 3] 39)).setCell ⟨gb, 4, none⟩ (.slice (some ⟨w31.heap.size, 0, none⟩) 1 1)).cell? ⟨gb, 3, none⟩ = some (.slice (some ⟨k, 0, none⟩) 1 1) := hgB.cell rfl
  have c4 : ((w31.alloc (.cells #[.int .i64 2, .int .i64 3] 39)).setCell ⟨gb, 4, none⟩ (.slice (some ⟨w31.heap.size, 0, none⟩) 1 1)).cell? ⟨gb, 4, none⟩ = some (.slice (some ⟨w31.heap.size, 0, none⟩) 1 1) := hgB.cell rfl
  have c5 : ((w31.alloc (.cells #[.int .i64 2, .int .i64 3] 39)).setCell ⟨gb, 4, none⟩ (.slice (some ⟨w31.heap.size, 0, none⟩) 1 1)).cell? ⟨gb, 5, none⟩ = some (.slice none 0 0) := hgB.cell rfl
  have c6 : ((w31.alloc (.cells #[.int .i64 2, .int .i64 3] 39)).setCell ⟨gb, 4, none⟩ (.slice (some ⟨w31.heap.size, 0, none⟩) 1 1)).cell? ⟨gb, 6, none⟩ = some (.slice none 0 0) := hgB.cell rfl
  have c7 : ((w31.alloc (.cells #[.int .i64 2, .int .i64 3] 39)).setCell ⟨gb, 4, none⟩ (.slice (some ⟨w31.heap.size, 0, none⟩) 1 1)).cell? ⟨gb, 7, none⟩ = some (.slice none 0 0) := hgB.cell rfl
  go_wp2_with fail
  refine (at_calls ⟨.slice (some ⟨e, 0, none⟩) 4 4, .slice (some ⟨p, 0, none⟩) 1 1, .slice (some ⟨k, 0, none⟩) 1 1, .slice (some ⟨w31.heap.size, 0, none⟩) 1 1, .slice none 0 0, .slice none 0 0, .slice none 0 0⟩ k8 6 0 _ ⟨evArg_of (evs_x hXB.he) rfl (by decide) (by decide), p_one hXB.hp, hXB.co, p_one hN0, p_nil _, p_nil _, p_nil _⟩ (HF.out.step hWB) k8_chk).mono ?_
  rintro r w32 ⟨rfl, hB⟩
  have HW32 : Hid (Below w.heap.size w w32) := below_step hWB hWB.size hB
  have hgC : Blk w32 gb 26 #[.int .i64 1, .slice (some ⟨e, 0, none⟩) 4 4, .slice (some ⟨p, 0, none⟩) 1 1, .slice (some ⟨k, 0, none⟩) 1 1, .slice (some ⟨w31.heap.size, 0, none⟩) 1 1, .slice none 0 0, .slice none 0 0, .slice none 0 0] := hgB.of_below hB
  have HX32 := hid_of (hXB.below hB)
  generalize hnb : w31.heap.size = nb32 at hgC
  have HG32 := hid_of hgC
  clear hgA hgB hXA hXB o4 q4 hWB hB HW31 HG31 HX31 c0 c1 c2 c3 c4 c5 c6 c7 hn0 hN0 hgC hnb
  go_wp2_with fail
  refine (example2_calls w32).mono ?_
  rintro r w33 ⟨e, p, l, k, rfl, hX, hB, hE0⟩
  have HEB : Hid (w.heap.size ≤ e) := Nat.le_trans HW32.out.size hE0
  clear hE0
  have hg := HG32.out.of_below hB
  have hW := below_step HW32.out HW32.out.size hB
  have hall : (exA e p k).all (·.oneCell') = true := by simp [exA, Value.oneCell']
  have hgB := hg.setRow' (exA e p k)
  have hXB := hX.rowG hg (exA e p k)
  have hWB : Below w.heap.size w (w33.setRow gb (exA e p k)) := hW.trans (below_row _ HGB.out)
  clear HG32 HX32 HW32 hB hX hW
  go_upto_region 29 with (first | refine wpList_store_row rfl 26 _ _ rfl gb (exA e p k) rfl rfl 26 _ hg (by kernel_rfl) rfl hall ?_)
  generalize hwq : w33.setRow gb (exA e p k) = w34 at *
  have HW34 := hid_of hWB
  have HG34 := hid_of hgB
  have HX34 := hid_of hXB
  clear hwq hg hall hgB hXB hWB
  have hgA : Blk (w34.alloc (.cells #[.int .i64 2, .int .i64 3] 39)) gb 26 #[.int .i64 1, .slice (some ⟨e, 0, none⟩) 4 4, .slice (some ⟨p, 0, none⟩) 1 1, .slice (some ⟨k, 0, none⟩) 1 1, .slice none 0 0, .slice none 0 0, .slice none 0 0, .slice none 0 0] := (HG34.out.alloc _)
  have hgB := hgA.set 7 (.slice (some ⟨w34.heap.size, 0, none⟩) 1 1)
  have hXA : ExL (w34.alloc (.cells #[.int .i64 2, .int .i64 3] 39)) e p l k exE2 := (HX34.out.alloc _)
  have hXB := hXA.setG hgA 7 (.slice (some ⟨w34.heap.size, 0, none⟩) 1 1)
  have hn0 : Blk (w34.alloc (.cells #[.int .i64 2, .int .i64 3] 39)) w34.heap.size 39 #[.int .i64 2, .int .i64 3] := Blk.new w34 39 #[.int .i64 2, .int .i64 3]
  have hN0 := hn0.setOther (a := ⟨gb, 7, none⟩) (blk_ne hn0 hgA (by decide)) (.slice (some ⟨w34.heap.size, 0, none⟩) 1 1)
  have o7 : (w34.alloc (.cells #[.int .i64 2, .int .i64 3] 39)).cell? ⟨gb, 7, none⟩ = some (.slice none 0 0) := hgA.cell rfl
  have q7 : (w34.alloc (.cells #[.int .i64 2, .int .i64 3] 39)).frozen? ⟨gb, 7, none⟩ = false := hgA.frozen 7
  have hWB : Below w.heap.size w ((w34.alloc (.cells #[.int .i64 2, .int .i64 3] 39)).setCell ⟨gb, 7, none⟩ (.slice (some ⟨w34.heap.size, 0, none⟩) 1 1)) := ((HW34.out.alloc (by exact HW34.out.size) _)).setCell HGB.out _
  have c0 : ((w34.alloc (.cells #[.int .i64 2, .int .i64 3] 39)).setCell ⟨gb, 7, none⟩ (.slice (some ⟨w34.heap.size, 0, none⟩) 1 1)).cell? ⟨gb, 0, none⟩ = some (.int .i64 1) := hgB.cell rfl
  have c1 : ((w34.alloc (.cells #[.int .i64 2, .int .i64 3] 39)).setCell ⟨gb, 7, none⟩ (.slice (some ⟨w34.heap.size, 0, none⟩) 1 1)).cell? ⟨gb, 1, none⟩ = some (.slice (some ⟨e, 0, none⟩) 4 4) := hgB.cell rfl
  have c2 : ((w34.alloc (.cells #[.int .i64 2, .int .i64 3] 39)).setCell ⟨gb, 7, none⟩ (.slice (some ⟨w34.heap.size, 0, none⟩) 1 1)).cell? ⟨gb, 2, none⟩ = some (.slice (some ⟨p, 0, none⟩) 1 1) := hgB.cell rfl
  have c3 : ((w34.alloc (.cells #[.int .i64 2, .int .i64 3] 39)).setCell ⟨gb, 7, none⟩ (.slice (some ⟨w34.heap.size, 0, none⟩) 1 1)).cell? ⟨gb, 3, none⟩ = some (.slice (some ⟨k, 0, none⟩) 1 1) := hgB.cell rfl
  have c4 : ((w34.alloc (.cells #[.int .i64 2, .int .i64 3] 39)).setCell ⟨gb, 7, none⟩ (.slice (some ⟨w34.heap.size, 0, none⟩) 1 1)).cell? ⟨gb, 4, none⟩ = some (.slice none 0 0) := hgB.cell rfl
  have c5 : ((w34.alloc (.cells #[.int .i64 2, .int .i64 3] 39)).setCell ⟨gb, 7, none⟩ (.slice (some ⟨w34.heap.size, 0, none⟩) 1 1)).cell? ⟨gb, 5, none⟩ = some (.slice none 0 0) := hgB.cell rfl
  have c6 : ((w34.alloc (.cells #[.int .i64 2, .int .i64 3] 39)).setCell ⟨gb, 7, none⟩ (.slice (some ⟨w34.heap.size, 0, none⟩) 1 1)).cell? ⟨gb, 6, none⟩ = some (.slice none 0 0) := hgB.cell rfl
  have c7 : ((w34.alloc (.cells #[.int .i64 2, .int .i64 3] 39)).setCell ⟨gb, 7, none⟩ (.slice (some ⟨w34.heap.size, 0, none⟩) 1 1)).cell? ⟨gb, 7, none⟩ = some (.slice (some ⟨w34.heap.size, 0, none⟩) 1 1) := hgB.cell rfl
  go_wp2_with fail
  refine (at_calls ⟨.slice (some ⟨e, 0, none⟩) 4 4, .slice (some ⟨p, 0, none⟩) 1 1, .slice (some ⟨k, 0, none⟩) 1 1, .slice none 0 0, .slice none 0 0, .slice none 0 0, .slice (some ⟨w34.heap.size, 0, none⟩) 1 1⟩ k9 9 0 _ ⟨evArg_of (evs_x hXB.he) rfl (by decide) (by decide), p_one hXB.hp, hXB.co, p_nil _, p_nil _, p_nil _, p_one hN0⟩ (HF.out.step hWB) k9_chk).mono ?_
  rintro r w35 ⟨rfl, hB⟩
  have HW35 : Hid (Below w.heap.size w w35) := below_step hWB hWB.size hB
  have hgC : Blk w35 gb 26 #[.int .i64 1, .slice (some ⟨e, 0, none⟩) 4 4, .slice (some ⟨p, 0, none⟩) 1 1, .slice (some ⟨k, 0, none⟩) 1 1, .slice none 0 0, .slice none 0 0, .slice none 0 0, .slice (some ⟨w34.heap.size, 0, none⟩) 1 1] := hgB.of_below hB
  have HX35 := hid_of (hXB.below hB)
  have HNCN := hN0.of_below hB
  generalize hnb : w34.heap.size = nb35 at hgC HNCN
  have HNC := hid_of HNCN
  have HG35 := hid_of hgC
  clear hgA hgB hXA hXB o7 q7 hWB hB HW34 HG34 HX34 c0 c1 c2 c3 c4 c5 c6 c7 hn0 hN0 hgC hnb HNCN
  have c1 : w35.cell? ⟨gb, 1, none⟩ = some (.slice (some ⟨e, 0, none⟩) 4 4) := HG35.out.cell rfl
  have oe : w35.cell? ⟨e, 4, none⟩ = some (.int .i64 1) := HX35.out.he.cell rfl
  have qe : w35.frozen? ⟨e, 4, none⟩ = false := HX35.out.he.frozen 4
  have hgB := HG35.out.setOther (a := ⟨e, 4, none⟩) (blk_ne HG35.out HX35.out.he (by decide)) (.int .i64 11)
  have hXB : ExL (w35.setCell ⟨e, 4, none⟩ (.int .i64 11)) e p l k #[.int .i64 (-1), .int .i64 2, .int .i64 (0), .int .u64 0, .int .i64 11, .int .i64 (0), .int .i64 2, .int .i64 (0), .int .u64 7, .int .i64 1, .int .i64 (1), .int .i64 1, .int .i64 (0), .int .u64 7, .int .i64 2, .int .i64 (1), .int .i64 3, .int .i64 (-1), .int .u64 0, .int .i64 5] := HX35.out.setE 4 (.int .i64 11)
  have hWB : Below w.heap.size w (w35.setCell ⟨e, 4, none⟩ (.int .i64 11)) := HW35.out.setCell HEB.out _
  have HNCB := HNC.out.setOther (a := ⟨e, 4, none⟩) (blk_ne HNC.out HX35.out.he (by decide)) (.int .i64 11)
  go_upto_region 32 with fail
  generalize hwq : w35.setCell ⟨e, 4, none⟩ (.int .i64 11) = w36 at *
  have HW36 := hid_of hWB
  have HG36 := hid_of hgB
  have HX36 := hid_of hXB
  have HNCC := hid_of HNCB
  clear hwq c1 oe qe hgB hXB hWB HW35 HG35 HX35 HNC HNCB
  have HNC := hid_of HNCC.out
  clear HNCC
  have c1 : w36.cell? ⟨gb, 1, none⟩ = some (.slice (some ⟨e, 0, none⟩) 4 4) := HG36.out.cell rfl
  have oe : w36.cell? ⟨e, 9, none⟩ = some (.int .i64 1) := HX36.out.he.cell rfl
  have qe : w36.frozen? ⟨e, 9, none⟩ = false := HX36.out.he.frozen 9
  have hgB := HG36.out.setOther (a := ⟨e, 9, none⟩) (blk_ne HG36.out HX36.out.he (by decide)) (.int .i64 11)
  have hXB : ExL (w36.setCell ⟨e, 9, none⟩ (.int .i64 11)) e p l k #[.int .i64 (-1), .int .i64 2, .int .i64 (0), .int .u64 0, .int .i64 11, .int .i64 (0), .int .i64 2, .int .i64 (0), .int .u64 7, .int .i64 11, .int .i64 (1), .int .i64 1, .int .i64 (0), .int .u64 7, .int .i64 2, .int .i64 (1), .int .i64 3, .int .i64 (-1), .int .u64 0, .int .i64 5] := HX36.out.setE 9 (.int .i64 11)
  have hWB : Below w.heap.size w (w36.setCell ⟨e, 9, none⟩ (.int .i64 11)) := HW36.out.setCell HEB.out _
  have HNCB := HNC.out.setOther (a := ⟨e, 9, none⟩) (blk_ne HNC.out HX36.out.he (by decide)) (.int .i64 11)
  go_upto_region 33 with fail
  generalize hwq : w36.setCell ⟨e, 9, none⟩ (.int .i64 11) = w37 at *
  have HW37 := hid_of hWB
  have HG37 := hid_of hgB
  have HX37 := hid_of hXB
  have HNCC := hid_of HNCB
  clear hwq c1 oe qe hgB hXB hWB HW36 HG36 HX36 HNC HNCB
  have HNC := hid_of HNCC.out
  clear HNCC
  have c1 : w37.cell? ⟨gb, 1, none⟩ = some (.slice (some ⟨e, 0, none⟩) 4 4) := HG37.out.cell rfl
  have oe : w37.cell? ⟨e, 14, none⟩ = some (.int .i64 2) := HX37.out.he.cell rfl
  have qe : w37.frozen? ⟨e, 14, none⟩ = false := HX37.out.he.frozen 14
  have hgB := HG37.out.setOther (a := ⟨e, 14, none⟩) (blk_ne HG37.out HX37.out.he (by decide)) (.int .i64 12)
  have hXB : ExL (w37.setCell ⟨e, 14, none⟩ (.int .i64 12)) e p l k #[.int .i64 (-1), .int .i64 2, .int .i64 (0), .int .u64 0, .int .i64 11, .int .i64 (0), .int .i64 2, .int .i64 (0), .int .u64 7, .int .i64 11, .int .i64 (1), .int .i64 1, .int .i64 (0), .int .u64 7, .int .i64 12, .int .i64 (1), .int .i64 3, .int .i64 (-1), .int .u64 0, .int .i64 5] := HX37.out.setE 14 (.int .i64 12)
  have hWB : Below w.heap.size w (w37.setCell ⟨e, 14, none⟩ (.int .i64 12)) := HW37.out.setCell HEB.out _
  have HNCB := HNC.out.setOther (a := ⟨e, 14, none⟩) (blk_ne HNC.out HX37.out.he (by decide)) (.int .i64 12)
  go_upto_region 34 with fail
  generalize hwq : w37.setCell ⟨e, 14, none⟩ (.int .i64 12) = w38 at *
  have HW38 := hid_of hWB
  have HG38 := hid_of hgB
  have HX38 := hid_of hXB
  have HNCC := hid_of HNCB
  clear hwq c1 oe qe hgB hXB hWB HW37 HG37 HX37 HNC HNCB
  have HNC := hid_of HNCC.out
  clear HNCC
  have c1 : w38.cell? ⟨gb, 1, none⟩ = some (.slice (some ⟨e, 0, none⟩) 4 4) := HG38.out.cell rfl
  have oe : w38.cell? ⟨e, 19, none⟩ = some (.int .i64 5) := HX38.out.he.cell rfl
  have qe : w38.frozen? ⟨e, 19, none⟩ = false := HX38.out.he.frozen 19
  have hgB := HG38.out.setOther (a := ⟨e, 19, none⟩) (blk_ne HG38.out HX38.out.he (by decide)) (.int .i64 15)
  have hXB : ExL (w38.setCell ⟨e, 19, none⟩ (.int .i64 15)) e p l k #[.int .i64 (-1), .int .i64 2, .int .i64 (0), .int .u64 0, .int .i64 11, .int .i64 (0), .int .i64 2, .int .i64 (0), .int .u64 7, .int .i64 11, .int .i64 (1), .int .i64 1, .int .i64 (0), .int .u64 7, .int .i64 12, .int .i64 (1), .int .i64 3, .int .i64 (-1), .int .u64 0, .int .i64 15] := HX38.out.setE 19 (.int .i64 15)
  have hWB : Below w.heap.size w (w38.setCell ⟨e, 19, none⟩ (.int .i64 15)) := HW38.out.setCell HEB.out _
  have HNCB := HNC.out.setOther (a := ⟨e, 19, none⟩) (blk_ne HNC.out HX38.out.he (by decide)) (.int .i64 15)
  go_upto_region 35 with fail
  generalize hwq : w38.setCell ⟨e, 19, none⟩ (.int .i64 15) = w39 at *
  have HW39 := hid_of hWB
  have HG39 := hid_of hgB
  have HX39 := hid_of hXB
  have HNCC := hid_of HNCB
  clear hwq c1 oe qe hgB hXB hWB HW38 HG38 HX38 HNC HNCB
  have HNC := hid_of HNCC.out
  clear HNCC
  have c0 : w39.cell? ⟨gb, 0, none⟩ = some (.int .i64 1) := HG39.out.cell rfl
  have c1 : w39.cell? ⟨gb, 1, none⟩ = some (.slice (some ⟨e, 0, none⟩) 4 4) := HG39.out.cell rfl
  have c2 : w39.cell? ⟨gb, 2, none⟩ = some (.slice (some ⟨p, 0, none⟩) 1 1) := HG39.out.cell rfl
  have c3 : w39.cell? ⟨gb, 3, none⟩ = some (.slice (some ⟨k, 0, none⟩) 1 1) := HG39.out.cell rfl
  have c4 : w39.cell? ⟨gb, 4, none⟩ = some (.slice none 0 0) := HG39.out.cell rfl
  have c5 : w39.cell? ⟨gb, 5, none⟩ = some (.slice none 0 0) := HG39.out.cell rfl
  have c6 : w39.cell? ⟨gb, 6, none⟩ = some (.slice none 0 0) := HG39.out.cell rfl
  have c7 : w39.cell? ⟨gb, 7, none⟩ = some (.slice (some ⟨nb35, 0, none⟩) 1 1) := HG39.out.cell rfl
  go_wp2_with fail
  clear c0 c1 c2 c3 c4 c5 c6 c7
  refine (gCheck_calls ⟨.slice (some ⟨e, 0, none⟩) 4 4, .slice (some ⟨p, 0, none⟩) 1 1, .slice (some ⟨k, 0, none⟩) 1 1, .slice none 0 0, .slice none 0 0, .slice none 0 0, .slice (some ⟨nb35, 0, none⟩) 1 1⟩ k10 true _ ⟨evArg_of (evs_10 HX39.out.he) rfl (by decide) (by decide), p_one HX39.out.hp, HX39.out.co, p_nil _, p_nil _, p_nil _, p_one HNC.out⟩ (HF.out.step HW39.out)).mono ?_
  rw [k10_chk]
  rintro r w40 ⟨rfl, hB⟩
  have HW40 : Hid (Below w.heap.size w w40) := below_step HW39.out HW39.out.size hB
  have HG40 := hid_of (HG39.out.of_below hB)
  have HX40 := hid_of (HX39.out.below hB)
  have HNCC := hid_of (HNC.out.of_below hB)
  clear hB HW39 HG39 HX39 HNC
  have HNC := hid_of HNCC.out
  clear HNCC
  have hgA : Blk (w40.alloc (.cells #[.int .i64 2, .int .i64 3] 39)) gb 26 #[.int .i64 1, .slice (some ⟨e, 0, none⟩) 4 4, .slice (some ⟨p, 0, none⟩) 1 1, .slice (some ⟨k, 0, none⟩) 1 1, .slice none 0 0, .slice none 0 0, .slice none 0 0, .slice (some ⟨nb35, 0, none⟩) 1 1] := (HG40.out.alloc _)
  have hgB := hgA.set 5 (.slice (some ⟨w40.heap.size, 0, none⟩) 1 1)
  have hXA : ExL (w40.alloc (.cells #[.int .i64 2, .int .i64 3] 39)) e p l k exE10 := (HX40.out.alloc _)
  have hXB := hXA.setG hgA 5 (.slice (some ⟨w40.heap.size, 0, none⟩) 1 1)
  have hn0 : Blk (w40.alloc (.cells #[.int .i64 2, .int .i64 3] 39)) w40.heap.size 39 #[.int .i64 2, .int .i64 3] := Blk.new w40 39 #[.int .i64 2, .int .i64 3]
  have hN0 := hn0.setOther (a := ⟨gb, 5, none⟩) (blk_ne hn0 hgA (by decide)) (.slice (some ⟨w40.heap.size, 0, none⟩) 1 1)
  have HNCA := (HNC.out.alloc (.cells #[.int .i64 2, .int .i64 3] 39))
  have HNCB := HNCA.setOther (a := ⟨gb, 5, none⟩) (blk_ne HNCA hgA (by decide)) (.slice (some ⟨w40.heap.size, 0, none⟩) 1 1)
  have o5 : (w40.alloc (.cells #[.int .i64 2, .int .i64 3] 39)).cell? ⟨gb, 5, none⟩ = some (.slice none 0 0) := hgA.cell rfl
  have q5 : (w40.alloc (.cells #[.int .i64 2, .int .i64 3] 39)).frozen? ⟨gb, 5, none⟩ = false := hgA.frozen 5
  have hWB : Below w.heap.size w ((w40.alloc (.cells #[.int .i64 2, .int .i64 3] 39)).setCell ⟨gb, 5, none⟩ (.slice (some ⟨w40.heap.size, 0, none⟩) 1 1)) := ((HW40.out.alloc (by exact HW40.out.size) _)).setCell HGB.out _
  have c0 : ((w40.alloc (.cells #[.int .i64 2, .int .i64 3] 39)).setCell ⟨gb, 5, none⟩ (.slice (some ⟨w40.heap.size, 0, none⟩) 1 1)).cell? ⟨gb, 0, none⟩ = some (.int .i64 1) := hgB.cell rfl
  have c1 : ((w40.alloc (.cells #[.int .i64 2, .int .i64 3] 39)).setCell ⟨gb, 5, none⟩ (.slice (some ⟨w40.heap.size, 0, none⟩) 1 1)).cell? ⟨gb, 1, none⟩ = some (.slice (some ⟨e, 0, none⟩) 4 4) := hgB.cell rfl
  have c2 : ((w40.alloc (.cells #[.int .i64 2, .int .i64 3] 39)).setCell ⟨gb, 5, none⟩ (.slice (some ⟨w40.heap.size, 0, none⟩) 1 1)).cell? ⟨gb, 2, none⟩ = some (.slice (some ⟨p, 0, none⟩) 1 1) := hgB.cell rfl
  have c3 : ((w40.alloc (.cells #[.int .i64 2, .int .i64 3] 39)).setCell ⟨gb, 5, none⟩ (.slice (some ⟨w40.heap.size, 0, none⟩) 1 1)).cell? ⟨gb, 3, none⟩ = some (.slice (some ⟨k, 0, none⟩) 1 1) := hgB.cell rfl
  have c4 : ((w40.alloc (.cells #[.int .i64 2, .int .i64 3] 39)).setCell ⟨gb, 5, none⟩ (.slice (some ⟨w40.heap.size, 0, none⟩) 1 1)).cell? ⟨gb, 4, none⟩ = some (.slice none 0 0) := hgB.cell rfl
  have c5 : ((w40.alloc (.cells #[.int .i64 2, .int .i64 3] 39)).setCell ⟨gb, 5, none⟩ (.slice (some ⟨w40.heap.size, 0, none⟩) 1 1)).cell? ⟨gb, 5, none⟩ = some (.slice (some ⟨w40.heap.size, 0, none⟩) 1 1) := hgB.cell rfl
  have c6 : ((w40.alloc (.cells #[.int .i64 2, .int .i64 3] 39)).setCell ⟨gb, 5, none⟩ (.slice (some ⟨w40.heap.size, 0, none⟩) 1 1)).cell? ⟨gb, 6, none⟩ = some (.slice none 0 0) := hgB.cell rfl
  have c7 : ((w40.alloc (.cells #[.int .i64 2, .int .i64 3] 39)).setCell ⟨gb, 5, none⟩ (.slice (some ⟨w40.heap.size, 0, none⟩) 1 1)).cell? ⟨gb, 7, none⟩ = some (.slice (some ⟨nb35, 0, none⟩) 1 1) := hgB.cell rfl
  go_wp2_with fail
  refine (gCheck_calls ⟨.slice (some ⟨e, 0, none⟩) 4 4, .slice (some ⟨p, 0, none⟩) 1 1, .slice (some ⟨k, 0, none⟩) 1 1, .slice none 0 0, .slice (some ⟨w40.heap.size, 0, none⟩) 1 1, .slice none 0 0, .slice (some ⟨nb35, 0, none⟩) 1 1⟩ k11 true _ ⟨evArg_of (evs_10 hXB.he) rfl (by decide) (by decide), p_one hXB.hp, hXB.co, p_nil _, p_one hN0, p_nil _, p_one HNCB⟩ (HF.out.step hWB)).mono ?_
  rw [k11_chk]
  rintro r w41 ⟨rfl, hB⟩
  have HW41 : Hid (Below w.heap.size w w41) := below_step hWB hWB.size hB
  have hgC : Blk w41 gb 26 #[.int .i64 1, .slice (some ⟨e, 0, none⟩) 4 4, .slice (some ⟨p, 0, none⟩) 1 1, .slice (some ⟨k, 0, none⟩) 1 1, .slice none 0 0, .slice (some ⟨w40.heap.size, 0, none⟩) 1 1, .slice none 0 0, .slice (some ⟨nb35, 0, none⟩) 1 1] := hgB.of_below hB
  have HX41 := hid_of (hXB.below hB)
  generalize hnb : w40.heap.size = nb41 at hgC
  have HG41 := hid_of hgC
  have HNCC := hid_of (HNCB.of_below hB)
  clear hgA hgB hXA hXB o5 q5 hWB hB HW40 HG40 HX40 c0 c1 c2 c3 c4 c5 c6 c7 hn0 hN0 hgC hnb HNC HNCA HNCB
  have HNC := hid_of HNCC.out
  clear HNCC
  clear HNC
  go_wp2_with fail
  refine (example2_calls w41).mono ?_
  rintro r w42 ⟨e, p, l, k, rfl, hX, hB, hE0⟩
  have HEB : Hid (w.heap.size ≤ e) := Nat.le_trans HW41.out.size hE0
  clear hE0
  have hg := HG41.out.of_below hB
  have hW := below_step HW41.out HW41.out.size hB
  have hall : (exA e p k).all (·.oneCell') = true := by simp [exA, Value.oneCell']
  have hgB := hg.setRow' (exA e p k)
  have hXB := hX.rowG hg (exA e p k)
  have hWB : Below w.heap.size w (w42.setRow gb (exA e p k)) := hW.trans (below_row _ HGB.out)
  clear HG41 HX41 HW41 hB hX hW
  go_upto_region 39 with (first | refine wpList_store_row rfl 26 _ _ rfl gb (exA e p k) rfl rfl 26 _ hg (by kernel_rfl) rfl hall ?_)
  generalize hwq : w42.setRow gb (exA e p k) = w43 at *
  have HW43 := hid_of hWB
  have HG43 := hid_of hgB
  have HX43 := hid_of hXB
  clear hwq hg hall hgB hXB hWB
  have hgA : Blk w43 gb 26 #[.int .i64 1, .slice (some ⟨e, 0, none⟩) 4 4, .slice (some ⟨p, 0, none⟩) 1 1, .slice (some ⟨k, 0, none⟩) 1 1, .slice none 0 0, .slice none 0 0, .slice none 0 0, .slice none 0 0] := HG43.out
  have hgB := hgA.set 1 (.slice (some ⟨e, 0, none⟩) 1 4)
  have hXA : ExL w43 e p l k exE2 := HX43.out
  have hXB := hXA.setG hgA 1 (.slice (some ⟨e, 0, none⟩) 1 4)
  have o1 : w43.cell? ⟨gb, 1, none⟩ = some (.slice (some ⟨e, 0, none⟩) 4 4) := hgA.cell rfl
  have q1 : w43.frozen? ⟨gb, 1, none⟩ = false := hgA.frozen 1
  have hWB : Below w.heap.size w (w43.setCell ⟨gb, 1, none⟩ (.slice (some ⟨e, 0, none⟩) 1 4)) := (HW43.out).setCell HGB.out _
  have c1 : w43.cell? ⟨gb, 1, none⟩ = some (.slice (some ⟨e, 0, none⟩) 4 4) := hgA.cell rfl
  go_upto_region 40 with fail
  have hgC : Blk (w43.setCell ⟨gb, 1, none⟩ (.slice (some ⟨e, 0, none⟩) 1 4)) gb 26 #[.int .i64 1, .slice (some ⟨e, 0, none⟩) 1 4, .slice (some ⟨p, 0, none⟩) 1 1, .slice (some ⟨k, 0, none⟩) 1 1, .slice none 0 0, .slice none 0 0, .slice none 0 0, .slice none 0 0] := hgB
  generalize hwq : w43.setCell ⟨gb, 1, none⟩ (.slice (some ⟨e, 0, none⟩) 1 4) = w44 at *
  have HG44 := hid_of hgC
  have HW44 := hid_of hWB
  have HX44 := hid_of hXB
  clear hwq hgA hgB hXA hXB hWB hgC o1 q1 HW43 HG43 HX43 c1
  have hgA : Blk w44 gb 26 #[.int .i64 1, .slice (some ⟨e, 0, none⟩) 1 4, .slice (some ⟨p, 0, none⟩) 1 1, .slice (some ⟨k, 0, none⟩) 1 1, .slice none 0 0, .slice none 0 0, .slice none 0 0, .slice none 0 0] := HG44.out
  have hgB := hgA.set 2 (.slice none 0 0)
  have hXA : ExL w44 e p l k exE2 := HX44.out
  have hXB := hXA.setG hgA 2 (.slice none 0 0)
  have o2 : w44.cell? ⟨gb, 2, none⟩ = some (.slice (some ⟨p, 0, none⟩) 1 1) := hgA.cell rfl
  have q2 : w44.frozen? ⟨gb, 2, none⟩ = false := hgA.frozen 2
  have hWB : Below w.heap.size w (w44.setCell ⟨gb, 2, none⟩ (.slice none 0 0)) := (HW44.out).setCell HGB.out _
  go_upto_region 41 with fail
  have hgC : Blk (w44.setCell ⟨gb, 2, none⟩ (.slice none 0 0)) gb 26 #[.int .i64 1, .slice (some ⟨e, 0, none⟩) 1 4, .slice none 0 0, .slice (some ⟨k, 0, none⟩) 1 1, .slice none 0 0, .slice none 0 0, .slice none 0 0, .slice none 0 0] := hgB
  generalize hwq : w44.setCell ⟨gb, 2, none⟩ (.slice none 0 0) = w45 at *
  have HG45 := hid_of hgC
  have HW45 := hid_of hWB
  have HX45 := hid_of hXB
  clear hwq hgA hgB hXA hXB hWB hgC o2 q2 HW44 HG44 HX44
  have hgA : Blk ((w45.alloc (.cells #[.int .i64 0] 3)).alloc (.cells #[.slice (some ⟨w45.heap.size, 0, none⟩) 1 1] 42)) gb 26 #[.int .i64 1, .slice (some ⟨e, 0, none⟩) 1 4, .slice none 0 0, .slice (some ⟨k, 0, none⟩) 1 1, .slice none 0 0, .slice none 0 0, .slice none 0 0, .slice none 0 0] := ((HG45.out.alloc _).alloc _)
  have hgB := hgA.set 3 (.slice (some ⟨(w45.heap.size + 1), 0, none⟩) 1 1)
  have hXA : ExL ((w45.alloc (.cells #[.int .i64 0] 3)).alloc (.cells #[.slice (some ⟨w45.heap.size, 0, none⟩) 1 1] 42)) e p l k exE2 := ((HX45.out.alloc _).alloc _)
  have hXB := hXA.setG hgA 3 (.slice (some ⟨(w45.heap.size + 1), 0, none⟩) 1 1)
  have hn0 : Blk ((w45.alloc (.cells #[.int .i64 0] 3)).alloc (.cells #[.slice (some ⟨w45.heap.size, 0, none⟩) 1 1] 42)) w45.heap.size 3 #[.int .i64 0] := (Blk.new w45 3 #[.int .i64 0]).alloc _
  have hN0 := hn0.setOther (a := ⟨gb, 3, none⟩) (blk_ne hn0 hgA (by decide)) (.slice (some ⟨(w45.heap.size + 1), 0, none⟩) 1 1)
  have hn1 : Blk ((w45.alloc (.cells #[.int .i64 0] 3)).alloc (.cells #[.slice (some ⟨w45.heap.size, 0, none⟩) 1 1] 42)) (w45.heap.size + 1) 42 #[.slice (some ⟨w45.heap.size, 0, none⟩) 1 1] := Blk.new2 w45 _ 42 #[.slice (some ⟨w45.heap.size, 0, none⟩) 1 1]
  have hN1 := hn1.setOther (a := ⟨gb, 3, none⟩) (blk_ne hn1 hgA (by decide)) (.slice (some ⟨(w45.heap.size + 1), 0, none⟩) 1 1)
  have o3 : ((w45.alloc (.cells #[.int .i64 0] 3)).alloc (.cells #[.slice (some ⟨w45.heap.size, 0, none⟩) 1 1] 42)).cell? ⟨gb, 3, none⟩ = some (.slice (some ⟨k, 0, none⟩) 1 1) := hgA.cell rfl
  have q3 : ((w45.alloc (.cells #[.int .i64 0] 3)).alloc (.cells #[.slice (some ⟨w45.heap.size, 0, none⟩) 1 1] 42)).frozen? ⟨gb, 3, none⟩ = false := hgA.frozen 3
  have hWB : Below w.heap.size w (((w45.alloc (.cells #[.int .i64 0] 3)).alloc (.cells #[.slice (some ⟨w45.heap.size, 0, none⟩) 1 1] 42)).setCell ⟨gb, 3, none⟩ (.slice (some ⟨(w45.heap.size + 1), 0, none⟩) 1 1)) := (((HW45.out.alloc (by exact HW45.out.size) _).alloc (by have := HW45.out.size; simp; omega) _)).setCell HGB.out _
  go_upto_region 42 with fail
  have hgC : Blk (((w45.alloc (.cells #[.int .i64 0] 3)).alloc (.cells #[.slice (some ⟨w45.heap.size, 0, none⟩) 1 1] 42)).setCell ⟨gb, 3, none⟩ (.slice (some ⟨(w45.heap.size + 1), 0, none⟩) 1 1)) gb 26 #[.int .i64 1, .slice (some ⟨e, 0, none⟩) 1 4, .slice none 0 0, .slice (some ⟨(w45.heap.size + 1), 0, none⟩) 1 1, .slice none 0 0, .slice none 0 0, .slice none 0 0, .slice none 0 0] := hgB
  generalize hwq : ((w45.alloc (.cells #[.int .i64 0] 3)).alloc (.cells #[.slice (some ⟨w45.heap.size, 0, none⟩) 1 1] 42)).setCell ⟨gb, 3, none⟩ (.slice (some ⟨(w45.heap.size + 1), 0, none⟩) 1 1) = w46 at *
  generalize hnb : w45.heap.size = nb46 at hgC hN0 hN1
  have HN0 := hid_of hN0
  have HN1 := hid_of hN1
  have HG46 := hid_of hgC
  have HW46 := hid_of hWB
  have HX46 := hid_of hXB
  clear hwq hgA hgB hXA hXB hWB hgC o3 q3 HW45 HG45 HX45 hn0 hN0 hn1 hN1 hnb
  have c0 : w46.cell? ⟨gb, 0, none⟩ = some (.int .i64 1) := HG46.out.cell rfl
  have c1 : w46.cell? ⟨gb, 1, none⟩ = some (.slice (some ⟨e, 0, none⟩) 1 4) := HG46.out.cell rfl
  have c2 : w46.cell? ⟨gb, 2, none⟩ = some (.slice none 0 0) := HG46.out.cell rfl
  have c3 : w46.cell? ⟨gb, 3, none⟩ = some (.slice (some ⟨(nb46 + 1), 0, none⟩) 1 1) := HG46.out.cell rfl
  have c4 : w46.cell? ⟨gb, 4, none⟩ = some (.slice none 0 0) := HG46.out.cell rfl
  have c5 : w46.cell? ⟨gb, 5, none⟩ = some (.slice none 0 0) := HG46.out.cell rfl
  have c6 : w46.cell? ⟨gb, 6, none⟩ = some (.slice none 0 0) := HG46.out.cell rfl
  have c7 : w46.cell? ⟨gb, 7, none⟩ = some (.slice none 0 0) := HG46.out.cell rfl
  go_wp2_with fail
  clear c0 c1 c2 c3 c4 c5 c6 c7
  refine (gFinal_calls ⟨.slice (some ⟨e, 0, none⟩) 1 4, .slice none 0 0, .slice (some ⟨(nb46 + 1), 0, none⟩) 1 1, .slice none 0 0, .slice none 0 0, .slice none 0 0, .slice none 0 0⟩ k12 _ ⟨evArg_of (evs_12 HX46.out.he) rfl (by decide) (by decide), p_nil _, co_one HN1.out (i_of (xs := [0]) HN0.out rfl) rfl (by decide), p_nil _, p_nil _, p_nil _, p_nil _⟩ (HF.out.step HW46.out)).mono ?_
  rintro r w47 (⟨_, u, rfl, hu, hB⟩ | ⟨hf, _⟩)
  case inr => rw [k12_wf] at hf; cases hf
  rw [k12_fin] at hu
  have HU := hid_of (owns_list (enc := encU1) (l := [0]) hu)
  clear hu
  have HW47 : Hid (Below w.heap.size w w47) := below_step HW46.out HW46.out.size hB
  have HG47 := hid_of (HG46.out.of_below hB)
  have HX47 := hid_of (HX46.out.below hB)
  have HN0C := hid_of (HN0.out.of_below hB)
  have HN1C := hid_of (HN1.out.of_below hB)
  clear hB HW46 HG46 HX46 HN0 HN1
  have HN0 := hid_of HN0C.out
  clear HN0C
  have HN1 := hid_of HN1C.out
  clear HN1C
  have c0 : w47.cell? ⟨gb, 0, none⟩ = some (.int .i64 1) := HG47.out.cell rfl
  have c1 : w47.cell? ⟨gb, 1, none⟩ = some (.slice (some ⟨e, 0, none⟩) 1 4) := HG47.out.cell rfl
  have c2 : w47.cell? ⟨gb, 2, none⟩ = some (.slice none 0 0) := HG47.out.cell rfl
  have c3 : w47.cell? ⟨gb, 3, none⟩ = some (.slice (some ⟨(nb46 + 1), 0, none⟩) 1 1) := HG47.out.cell rfl
  have c4 : w47.cell? ⟨gb, 4, none⟩ = some (.slice none 0 0) := HG47.out.cell rfl
  have c5 : w47.cell? ⟨gb, 5, none⟩ = some (.slice none 0 0) := HG47.out.cell rfl
  have c6 : w47.cell? ⟨gb, 6, none⟩ = some (.slice none 0 0) := HG47.out.cell rfl
  have c7 : w47.cell? ⟨gb, 7, none⟩ = some (.slice none 0 0) := HG47.out.cell rfl
  go_wp2_with fail
  clear c0 c1 c2 c3 c4 c5 c6 c7
  refine (at_calls ⟨.slice (some ⟨e, 0, none⟩) 1 4, .slice none 0 0, .slice (some ⟨(nb46 + 1), 0, none⟩) 1 1, .slice none 0 0, .slice none 0 0, .slice none 0 0, .slice none 0 0⟩ k12 0 0 _ ⟨evArg_of (evs_12 HX47.out.he) rfl (by decide) (by decide), p_nil _, co_one HN1.out (i_of (xs := [0]) HN0.out rfl) rfl (by decide), p_nil _, p_nil _, p_nil _, p_nil _⟩ (HF.out.step HW47.out) k12_chk).mono ?_
  rintro r w48 ⟨rfl, hB⟩
  have HU2 := hid_of (HU.out.below hB)
  have HW48 : Hid (Below w.heap.size w w48) := below_step HW47.out HW47.out.size hB
  have HG48 := hid_of (HG47.out.of_below hB)
  have HX48 := hid_of (HX47.out.below hB)
  have HN0C := hid_of (HN0.out.of_below hB)
  have HN1C := hid_of (HN1.out.of_below hB)
  clear hB HW47 HG47 HX47 HN0 HN1
  have HN0 := hid_of HN0C.out
  clear HN0C
  have HN1 := hid_of HN1C.out
  clear HN1C
  go_wp2_with fail
  have hBa : Below w48.heap.size w48 (w48.alloc (.cells #[.int .u64 0] 47)) := (Below.refl _ _).alloc (Nat.le_refl _) _
  refine (l8words_calls u _ [0] [0] _ (HU2.out.below hBa) (blk_list (enc := encU1) (l := [0]) (Blk.new w48 47 #[.int .u64 0])) (by decide)).mono ?_
  rintro r wz ⟨rfl, hB'⟩
  have hB := hBa.trans (hB'.mono hBa.size)
  go_wp2_with fail
  go_ret
  exact ⟨rfl, below_step HW48.out HW48.out.size hB⟩
end Go.Proofs.YthiijcappjaagaaDoor
