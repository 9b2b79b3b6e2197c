/- Derive's answer in memory. -/
import Derived.Test.YthiijcappjaagaaGreatDoorJ18
import Derived.Test.YthiijcappjaagaaGreatDoorJ14
import Derived.Test.YthiijcappjaagaaGreatDoorJ22
import Derived.Test.YthiijcappjaagaaGreatDoorJ09
namespace Go.Proofs.YthiijcappjaagaaGreatDoor
open Go.RowKit Go.Shelf Sx
def RelIn (w : World) (lo hi : Nat) (v : Value) (n : Nat) (F : Nat → Nat → Bool) : Prop := ∃ b c L, v = pv b ∧ IsRel w b c L ∧ TwR n F L ∧ lo ≤ b ∧ lo ≤ c ∧ b < hi ∧ c < hi
def TruIn (w : World) (lo hi : Nat) (v : Value) (l : List Bool) : Prop := ∃ b, v = .slice (some ⟨b, 0, none⟩) l.length l.length ∧ Blk w b 4 (arrB l) ∧ lo ≤ b ∧ b < hi
theorem RelIn.below {w w' : World} {lo hi : Nat} {v : Value} {n : Nat} {F : Nat → Nat → Bool} (h : RelIn w lo hi v n F) (hb : Below w.heap.size w w') : RelIn w' lo hi v n F := by
  obtain ⟨b, c, L, h1, h2, h3⟩ := h
  exact ⟨b, c, L, h1, h2.below hb, h3⟩
theorem TruIn.below {w w' : World} {lo hi : Nat} {v : Value} {l : List Bool} (h : TruIn w lo hi v l) (hb : Below w.heap.size w w') : TruIn w' lo hi v l := by
  obtain ⟨b, h1, h2, h3⟩ := h
  exact ⟨b, h1, h2.of_below hb, h3⟩
theorem RelIn.one {w : World} {lo hi : Nat} {v : Value} {n : Nat} {F : Nat → Nat → Bool} (h : RelIn w lo hi v n F) : v.oneCell' = true := by
  obtain ⟨b, c, L, rfl, _⟩ := h
  rfl
theorem TruIn.one {w : World} {lo hi : Nat} {v : Value} {l : List Bool} (h : TruIn w lo hi v l) : v.oneCell' = true := by
  obtain ⟨b, rfl, _⟩ := h
  rfl
def memB (l : List (Int × Int)) (p q : Nat) : Bool := decide ((((p : Nat) : Int), ((q : Nat) : Int)) ∈ l)
def coB (g : Gr) (p q : Nat) : Bool := decide ((((p : Nat) : Int), ((q : Nat) : Int)) ∈ ordAll g.co g.co.length)
def sameEv (l : List Ev) (a b : Nat) : Bool := sameB (l.getD a Ev.zero) (l.getD b Ev.zero)
def relF (g : Gr) : Nat → Nat → Nat → Bool
  | 0 => poB g.evs
  | 1 => memB g.rf
  | 2 => coB g
  | 3 => memB g.rmw
  | 4 => sameEv g.evs
  | 5 => extB g.evs
  | 6 => memB g.addr
  | 7 => memB g.dat
  | _ => memB g.ctrl
def frB (g : Gr) (p q : Nat) : Bool := (List.range g.evs.length).any (fun m => memB g.rf m p && coB g m q)
def kndL (g : Gr) (x : Int) : List Bool := truL (fun e => e.k == x) g.evs
theorem kndL_length (g : Gr) (x : Int) : (kndL g x).length = g.evs.length := by simp [kndL, truL]
def RES (g : Gr) (i : Nat) (v : Value) (w : World) (lo hi : Nat) : Prop := if i < 9 then RelIn w lo hi v g.evs.length (relF g i) else TruIn w lo hi v (kndL g ((i : Nat) - 8 : Int))
theorem RES.below {g : Gr} {i : Nat} {v : Value} {w w' : World} {lo hi : Nat} (h : RES g i v w lo hi) (hb : Below w.heap.size w w') : RES g i v w' lo hi := by
  unfold RES at h ⊢
  by_cases e : i < 9
  · rw [if_pos e] at h ⊢; exact h.below hb
  · rw [if_neg e] at h ⊢; exact h.below hb
theorem RES.one {g : Gr} {i : Nat} {v : Value} {w : World} {lo hi : Nat} (h : RES g i v w lo hi) : v.oneCell' = true := by
  unfold RES at h
  by_cases e : i < 9
  · rw [if_pos e] at h; exact h.one
  · rw [if_neg e] at h; exact h.one
theorem RES.lo {g : Gr} {i : Nat} {v : Value} {w : World} {lo lo' hi : Nat} (h : RES g i v w lo hi) (hl : lo' ≤ lo) : RES g i v w lo' hi := by
  unfold RES at h ⊢
  by_cases e : i < 9
  · rw [if_pos e] at h ⊢
    obtain ⟨b, c, L, h1, h2, h3, h4, h5, h6⟩ := h
    exact ⟨b, c, L, h1, h2, h3, Nat.le_trans hl h4, Nat.le_trans hl h5, h6⟩
  · rw [if_neg e] at h ⊢
    obtain ⟨b, h1, h2, h3, h4⟩ := h
    exact ⟨b, h1, h2, Nat.le_trans hl h3, h4⟩
theorem RES.rel {g : Gr} {i : Nat} {v : Value} {w : World} {lo hi : Nat} (hi9 : i < 9) (h : RES g i v w lo hi) : RelIn w lo hi v g.evs.length (relF g i) := by
  unfold RES at h
  rwa [if_pos hi9] at h
theorem RES.tru {g : Gr} {i : Nat} {v : Value} {w : World} {lo hi : Nat} (hi9 : 9 ≤ i) (h : RES g i v w lo hi) : TruIn w lo hi v (kndL g ((i : Nat) - 8 : Int)) := by
  unfold RES at h
  rwa [if_neg (by omega)] at h
theorem RES.mkRel {g : Gr} {i : Nat} {w w' : World} {b c : Nat} {L : List Nat} (hi9 : i < 9) (hM : Made w w' b c L) (hT : TwR g.evs.length (relF g i) L) : RES g i (pv b) w' w.heap.size w'.heap.size := by
  unfold RES
  rw [if_pos hi9]
  exact ⟨b, c, L, rfl, hM.rel, hT, hM.hb, hM.hc, hM.rel.head.lt, hM.rel.rows.lt⟩
theorem RES.mkTru {g : Gr} {i : Nat} {w w' : World} {b : Nat} (hi9 : 9 ≤ i) (x : Int) (hx : x = ((i : Nat) - 8 : Int)) (hb : Blk w' b 4 (arrB (truL (fun e => e.k == x) g.evs))) (hl : w.heap.size ≤ b) : RES g i (.slice (some ⟨b, 0, none⟩) g.evs.length g.evs.length) w' w.heap.size w'.heap.size := by
  unfold RES
  rw [if_neg (by omega), ← hx]
  exact ⟨b, by rw [kndL_length], hb, hl, hb.lt⟩
theorem clamp_small {n : Nat} (h : n ≤ 256) : clampN ((n : Nat) : Int) = n := by unfold clampN; omega
theorem ofL_twr {n : Nat} (h : n ≤ 256) (l : List (Int × Int)) : TwR n (memB l) (ofL ((n : Nat) : Int) l) := by
  have e : ofL ((n : Nat) : Int) l = puts n l := by unfold ofL; rw [clamp_small h]; rfl
  rw [e]
  exact puts_twr n l
theorem rel_wf {w : World} {b c : Nat} {L : List Nat} (hr : IsRel w b c L) : WF L.length L := by
  refine ⟨rfl, fun p q h => ?_⟩
  have hp := hs_left h
  unfold hs at h
  apply Nat.lt_of_not_le
  intro hle
  have hm : gr L p ∈ L := List.mem_of_getElem? (gr_of hp)
  rw [Nat.testBit_lt_two_pow (Nat.lt_of_lt_of_le (hr.low _ hm) (Nat.pow_le_pow_right (by omega) hle))] at h
  cases h
theorem twr_twin {n : Nat} {F : Nat → Nat → Bool} {L : List Nat} {w : World} {b c : Nat} (h : TwR n F L) (hr : IsRel w b c L) : Twin n F L := by
  have hw := rel_wf hr
  rw [h.len] at hw
  exact ⟨hw, fun p q hp hq => by rw [h.same p q hp hq]; exact Iff.rfl⟩
theorem fr_twr {g : Gr} {A B : List Nat} (hn : g.evs.length ≤ 256) (ha : Twin g.evs.length (memB g.rf) A) (hb : Twin g.evs.length (coB g) B) : TwR g.evs.length (frB g) (compL (invL A) B) := by
  refine ⟨(wf_comp hn (wf_inv hn ha.wf) hb.wf).len, fun p q hp hq => ?_⟩
  have h1 := hs_comp hn (wf_inv hn ha.wf) hb.wf p q
  unfold hs at h1
  rw [Bool.eq_iff_iff, h1]
  unfold frB
  rw [List.any_eq_true]
  constructor
  · rintro ⟨m, hm, h2⟩
    have hm' := List.mem_range.1 hm
    rw [Bool.and_eq_true] at h2
    exact ⟨m, (hs_inv hn ha.wf p m).2 ((ha.same m p hm' hp).1 h2.1), (hb.same m q hm' hq).1 h2.2⟩
  · rintro ⟨m, h2, h3⟩
    have h2' := (hs_inv hn ha.wf p m).1 h2
    have hm := (ha.low h2').1
    refine ⟨m, List.mem_range.2 hm, ?_⟩
    rw [Bool.and_eq_true]
    exact ⟨(ha.same m p hm hp).2 h2', (hb.same m q hm hq).2 h3⟩
end Go.Proofs.YthiijcappjaagaaGreatDoor
namespace Go.Proofs.YthiijcappjaagaaGreatDoor
open Go.RowKit Go.Shelf Sx
abbrev fr63 (x : Nat → Value) : Array Value := #[x 0, x 1, x 2, x 3, x 4, x 5, x 6, x 7, x 8, x 9, x 10, x 11, x 12, x 13, x 14, x 15, x 16, x 17, x 18, x 19, x 20, x 21, x 22, x 23, x 24, x 25, x 26, x 27, x 28, x 29, x 30, x 31, x 32, x 33, x 34, x 35, x 36, x 37, x 38, x 39, x 40, x 41, x 42, x 43, x 44, x 45, x 46, x 47, x 48, x 49, x 50, x 51, x 52, x 53, x 54, x 55, x 56, x 57, x 58, x 59, x 60, x 61, x 62]
def slD : Nat → Nat
  | 0 => 17
  | 1 => 21
  | 2 => 25
  | 3 => 29
  | 4 => 32
  | 5 => 35
  | 6 => 39
  | 7 => 43
  | 8 => 47
  | 9 => 49
  | 10 => 51
  | 11 => 53
  | _ => 54
def updV (x : Nat → Value) (s : Nat) (v : Value) : Nat → Value := fun i => if i = s then v else x i
def fixD (V : GrV) (g : Gr) (gb lb rb : Nat) : List (Nat × Value) := [(15, .int .i64 ((g.evs.length : Nat) : Int)), (16, .func (.func 52) #[] #[pv lb]), (18, .int .i64 ((g.evs.length : Nat) : Int)), (20, V.rf), (22, .int .i64 ((g.evs.length : Nat) : Int)), (24, V.co), (26, .int .i64 ((g.evs.length : Nat) : Int)), (28, V.rmw), (30, .int .i64 ((g.evs.length : Nat) : Int)), (31, .func (.func 56) #[] #[pv lb]), (33, .int .i64 ((g.evs.length : Nat) : Int)), (34, .func (.func 58) #[] #[pv lb]), (36, .int .i64 ((g.evs.length : Nat) : Int)), (38, V.addr), (40, .int .i64 ((g.evs.length : Nat) : Int)), (42, V.dat), (44, .int .i64 ((g.evs.length : Nat) : Int)), (46, V.ctrl), (48, V.ev), (50, V.ev), (52, V.ev), (0, V.val g), (1, pv gb), (2, pv rb), (3, .int .i64 0), (4, pv lb), (5, .int .i64 ((g.evs.length : Nat) : Int))]
abbrev nilF : Array Value := #[.pointer none, .pointer none, .pointer none, .pointer none, .pointer none, .pointer none, .pointer none, .pointer none, .pointer none, .pointer none, .slice none 0 0, .slice none 0 0, .slice none 0 0]
theorem nilF_all : nilF.all (·.oneCell') = true := by simp [nilF, Value.oneCell']
def outF (x : Nat → Value) : Array Value := #[x 17, x 21, x 25, .pointer none, x 29, x 32, x 35, x 39, x 43, x 47, x 49, x 51, x 53]
structure DInv (V : GrV) (g : Gr) (gb lb rb : Nat) (W0 : World) (j : Nat) (fl : Bool) (x : Nat → Value) (lo : Nat → Nat) (w : World) : Prop where
  fix : ∀ p ∈ fixD V g gb lb rb, x p.1 = p.2
  res : ∀ i, i < j → i < 12 → RES g i (x (slD i)) w (lo i) (lo (i + 1))
  mono : ∀ i, i < j → i < 12 → lo i ≤ lo (i + 1)
  top : lo (min j 12) ≤ w.heap.size
  bot : lo 0 = W0.heap.size
  bel : Below W0.heap.size W0 w
  bld : j = 13 → x 54 = .agg (outF x)
  alc : fl = true → ∃ m, x 6 = pv m ∧ Blk w m 36 nilF ∧ W0.heap.size ≤ m
def DAct (V : GrV) (g : Gr) (gb lb rb : Nat) (W0 : World) (j : Nat) (fl : Bool) (a : Act) (w : World) : Prop := ∃ x lo, a = ⟨fr63 x, []⟩ ∧ DInv V g gb lb rb W0 j fl x lo w
theorem slD_lt : ∀ j, j < 12 → ∀ i, i < j → slD i ≠ slD j := by decide
theorem slD_fix : ∀ j, j < 12 → ∀ k ∈ [15, 16, 18, 20, 22, 24, 26, 28, 30, 31, 33, 34, 36, 38, 40, 42, 44, 46, 48, 50, 52, 0, 1, 2, 3, 4, 5], k ≠ slD j := by decide
theorem slD_6 : ∀ j, j < 12 → (6 : Nat) ≠ slD j ∧ slD j ≠ 6 := by decide
theorem fixD_keys {V : GrV} {g : Gr} {gb lb rb : Nat} {p : Nat × Value} (h : p ∈ fixD V g gb lb rb) : p.1 ∈ [15, 16, 18, 20, 22, 24, 26, 28, 30, 31, 33, 34, 36, 38, 40, 42, 44, 46, 48, 50, 52, 0, 1, 2, 3, 4, 5] := by
  have : p.1 ∈ (fixD V g gb lb rb).map (·.1) := List.mem_map.2 ⟨p, h, rfl⟩
  simpa [fixD] using this
theorem updV_ne {x : Nat → Value} {s i : Nat} {v : Value} (h : i ≠ s) : updV x s v i = x i := if_neg h
theorem updV_eq {x : Nat → Value} {s : Nat} {v : Value} : updV x s v s = v := if_pos rfl
theorem DInv.call {V : GrV} {g : Gr} {gb lb rb : Nat} {W0 : World} {j : Nat} {fl : Bool} {x : Nat → Value} {lo : Nat → Nat} {w w' : World} {v : Value} (h : DInv V g gb lb rb W0 j fl x lo w) (hj : j < 12) (hr : RES g j v w' w.heap.size w'.heap.size) (hb : Below w.heap.size w w') :
    DInv V g gb lb rb W0 (j + 1) fl (updV x (slD j) v) (fun i => if i ≤ j then lo i else w'.heap.size) w' := by
  have htop : lo j ≤ w.heap.size := by have := h.top; rwa [Nat.min_eq_left (by omega)] at this
  refine ⟨fun p hp => ?_, fun i hi h12 => ?_, fun i hi h12 => ?_, ?_, ?_, h.bel.trans (hb.mono h.bel.size), fun e => by omega, fun e => ?_⟩
  · rw [updV_ne (slD_fix j hj _ (fixD_keys hp))]; exact h.fix p hp
  · by_cases e : i = j
    · subst e
      rw [updV_eq, if_pos (Nat.le_refl _), if_neg (by omega)]
      exact hr.lo htop
    · rw [updV_ne (slD_lt j hj i (by omega)), if_pos (by omega), if_pos (by omega)]
      exact (h.res i (by omega) h12).below hb
  · by_cases e : i = j
    · subst e
      rw [if_pos (Nat.le_refl _), if_neg (by omega)]
      exact Nat.le_trans htop hb.size
    · rw [if_pos (by omega), if_pos (by omega)]
      exact h.mono i (by omega) h12
  · rw [Nat.min_eq_left (by omega), if_neg (by omega)]
    exact Nat.le_refl _
  · rw [if_pos (Nat.zero_le _)]; exact h.bot
  · obtain ⟨m, h1, h2, h3⟩ := h.alc e
    exact ⟨m, by rw [updV_ne (slD_6 j hj).1]; exact h1, h2.of_below hb, h3⟩
theorem DInv.alloc {V : GrV} {g : Gr} {gb lb rb : Nat} {W0 : World} {j : Nat} {x : Nat → Value} {lo : Nat → Nat} {w : World} (h : DInv V g gb lb rb W0 j false x lo w) :
    DInv V g gb lb rb W0 j true (updV x 6 (pv w.heap.size)) lo (w.alloc (.cells nilF 36)) := by
  have hb : Below w.heap.size w (w.alloc (.cells nilF 36)) := (Below.refl _ _).alloc (Nat.le_refl _) _
  refine ⟨fun p hp => ?_, fun i hi h12 => ?_, h.mono, Nat.le_trans h.top hb.size, h.bot, h.bel.trans (hb.mono h.bel.size), fun e => ?_, fun _ => ⟨_, updV_eq, Blk.new w _ _, h.bel.size⟩⟩
  · rw [updV_ne (fun e => by have := fixD_keys hp; rw [e] at this; revert this; decide)]; exact h.fix p hp
  · rw [updV_ne (slD_6 i h12).2]
    exact (h.res i hi h12).below hb
  · show x 54 = _
    exact h.bld e
theorem DAct.start {V : GrV} {g : Gr} {gb lb rb : Nat} {W0 w : World} {t : Array Value} (ht : t = fr63 (fun i => t.getD i undef)) (hf : ∀ p ∈ fixD V g gb lb rb, t.getD p.1 undef = p.2) (hb : Below W0.heap.size W0 w) : DAct V g gb lb rb W0 0 false ⟨t, []⟩ w :=
  ⟨fun i => t.getD i undef, fun _ => W0.heap.size, by rw [← ht], hf, (fun i hi => by omega), (fun i hi => by omega), hb.size, rfl, hb, (fun e => by omega), (fun e => by cases e)⟩
theorem DInv.build {V : GrV} {g : Gr} {gb lb rb : Nat} {W0 : World} {fl : Bool} {x : Nat → Value} {lo : Nat → Nat} {w : World} (h : DInv V g gb lb rb W0 12 fl x lo w) : DInv V g gb lb rb W0 13 fl (updV x 54 (.agg (outF x))) lo w := by
  refine ⟨fun p hp => ?_, fun i hi h12 => ?_, fun i hi h12 => h.mono i h12 h12, h.top, h.bot, h.bel, fun _ => ?_, fun e => ?_⟩
  · rw [updV_ne (fun e => by have := fixD_keys hp; rw [e] at this; revert this; decide)]; exact h.fix p hp
  · rw [updV_ne (by revert i; decide)]
    exact h.res i h12 h12
  · rw [updV_eq]; rfl
  · obtain ⟨m, h1, h2, h3⟩ := h.alc e
    exact ⟨m, by rw [updV_ne (by decide)]; exact h1, h2, h3⟩
def callD : List Nat := [2, 6, 10, 14, 17, 20, 24, 28, 32, 34, 36, 38, 39]
def LD (j : Nat) (fl : Bool) : Array Bool := ((List.range 42).map (fun i => ([0, 1, 3, 4, 5, 7, 8, 9, 11, 12, 13, 15, 16, 18, 19, 21, 22, 23, 25, 26, 27, 29, 30, 31, 33, 35, 37] : List Nat).contains i || (callD.take j).contains i || (fl && i == 40))).toArray
theorem LD_set : ∀ j, j < 13 → ∀ fl, (LD j fl).setIfInBounds (callD.getD j 0) true = LD (j + 1) fl := by decide +kernel
theorem LD_setA : ∀ j, j ≤ 13 → (LD j false).setIfInBounds 40 true = LD j true := by decide +kernel
def outV (v : Nat → Value) (f : Value) : Array Value := #[v 0, v 1, v 2, f, v 3, v 4, v 5, v 6, v 7, v 8, v 9, v 10, v 11]
structure DMid (g : Gr) (W0 : World) (m : Nat) (v : Nat → Value) (lo : Nat → Nat) (w : World) : Prop where
  blk : Blk w m 36 (outV v (.pointer none))
  res : ∀ i, i < 12 → RES g i (v i) w (lo i) (lo (i + 1))
  mono : ∀ i, i < 12 → lo i ≤ lo (i + 1)
  top : lo 12 ≤ w.heap.size
  bot : lo 0 = W0.heap.size
  bel : Below W0.heap.size W0 w
  hm : W0.heap.size ≤ m
structure DEnd (g : Gr) (W0 : World) (m : Nat) (v : Nat → Value) (f : Value) (lo lo3 : Nat → Nat) (w : World) : Prop where
  blk : Blk w m 36 (outV v f)
  res : ∀ i, i < 12 → RES g i (v i) w (lo3 i) (lo3 (i + 1))
  fr : RelIn w (lo3 12) (lo3 13) f g.evs.length (frB g)
  mono : ∀ i, i < 13 → lo3 i ≤ lo3 (i + 1)
  top : lo3 13 ≤ w.heap.size
  bot : lo3 0 = W0.heap.size
  bel : Below W0.heap.size W0 w
  hm : W0.heap.size ≤ m
structure DerAt (g : Gr) (B : Nat) (v : Nat → Value) (f : Value) (lo : Nat → Nat) (w : World) : Prop where
  res : ∀ i, i < 12 → RES g i (v i) w (lo i) (lo (i + 1))
  fr : RelIn w (lo 12) (lo 13) f g.evs.length (frB g)
  mono : ∀ i, i < 13 → lo i ≤ lo (i + 1)
  top : lo 13 ≤ w.heap.size
  bot : B ≤ lo 0
def DerR (g : Gr) (w : World) (r : Ending) (w' : World) : Prop := (wfB g = true ∧ ∃ v f lo, r = .returned (.tuple #[.agg (outV v f), .int .i64 0]) ∧ DerAt g w.heap.size v f lo w' ∧ Below w.heap.size w w') ∨ (wfB g = false ∧ r = .returned (.tuple #[.agg nilF, .int .i64 4]) ∧ Below w.heap.size w w')
theorem outV_all {g : Gr} {v : Nat → Value} {lo : Nat → Nat} {w : World} (h : ∀ i, i < 12 → RES g i (v i) w (lo i) (lo (i + 1))) (f : Value) (hf : f.oneCell' = true) : (outV v f).all (·.oneCell') = true := by
  unfold outV
  simp only [List.all_toArray, List.all_cons, List.all_nil, hf, (h 0 (by omega)).one, (h 1 (by omega)).one, (h 2 (by omega)).one, (h 3 (by omega)).one, (h 4 (by omega)).one, (h 5 (by omega)).one, (h 6 (by omega)).one, (h 7 (by omega)).one, (h 8 (by omega)).one, (h 9 (by omega)).one, (h 10 (by omega)).one, (h 11 (by omega)).one]
  rfl
theorem Blk.setRow' {w : World} {m : Nat} {t : TypeId} {old : Array Value} (h : Blk w m t old) (cs : Array Value) : Blk (w.setRow m cs) m t cs := setRow_heap w m old cs t (0, 0) h
theorem below_row {B m : Nat} {w : World} (cs : Array Value) (hm : B ≤ m) : Below B w (w.setRow m cs) := ⟨rfl, rfl, rfl, by rw [setRow_size]; exact Nat.le_refl _, fun k hk => setRow_other w m k cs (by omega)⟩
theorem Blk.rowOther {w : World} {m b : Nat} {t : TypeId} {cs' : Array Value} (h : Blk w b t cs') (hne : b ≠ m) (cs : Array Value) : Blk (w.setRow m cs) b t cs' := (setRow_other w m b cs hne).trans h
theorem blk_ne {w : World} {b g : Nat} {t u : TypeId} {cs ds : Array Value} (h : Blk w b t cs) (hg : Blk w g u ds) (ht : t ≠ u) : b ≠ g := by
  intro e
  subst e
  have := h.symm.trans hg
  simp at this
  exact ht this.2
theorem RelIn.row {w : World} {lo hi m : Nat} {v : Value} {n : Nat} {F : Nat → Nat → Bool} {old : Array Value} (h : RelIn w lo hi v n F) (hm : Blk w m 36 old) (cs : Array Value) : RelIn (w.setRow m cs) lo hi v n F := by
  obtain ⟨b, c, L, h1, h2, h3⟩ := h
  exact ⟨b, c, L, h1, ⟨h2.ne, h2.head.rowOther (blk_ne h2.head hm (by decide)) cs, h2.rows.rowOther (blk_ne h2.rows hm (by decide)) cs, h2.len, h2.low⟩, h3⟩
theorem RES.row {g : Gr} {i : Nat} {w : World} {lo hi m : Nat} {v : Value} {old : Array Value} (h : RES g i v w lo hi) (hm : Blk w m 36 old) (cs : Array Value) : RES g i v (w.setRow m cs) lo hi := by
  unfold RES at h ⊢
  by_cases e : i < 9
  · rw [if_pos e] at h ⊢; exact h.row hm cs
  · rw [if_neg e] at h ⊢
    obtain ⟨b, h1, h2, h3⟩ := h
    exact ⟨b, h1, h2.rowOther (blk_ne h2 hm (by decide)) cs, h3⟩
theorem RelIn.cell {w : World} {lo hi m : Nat} {v : Value} {n : Nat} {F : Nat → Nat → Bool} {old : Array Value} (h : RelIn w lo hi v n F) (hm : Blk w m 36 old) (j : Nat) (u : Value) : RelIn (w.setCell ⟨m, j, none⟩ u) lo hi v n F := by
  obtain ⟨b, c, L, h1, h2, h3⟩ := h
  exact ⟨b, c, L, h1, ⟨h2.ne, h2.head.setOther (a := ⟨m, j, none⟩) (blk_ne h2.head hm (by decide)) u, h2.rows.setOther (a := ⟨m, j, none⟩) (blk_ne h2.rows hm (by decide)) u, h2.len, h2.low⟩, h3⟩
theorem RES.cell {g : Gr} {i : Nat} {w : World} {lo hi m : Nat} {v : Value} {old : Array Value} (h : RES g i v w lo hi) (hm : Blk w m 36 old) (j : Nat) (u : Value) : RES g i v (w.setCell ⟨m, j, none⟩ u) lo hi := by
  unfold RES at h ⊢
  by_cases e : i < 9
  · rw [if_pos e] at h ⊢; exact h.cell hm j u
  · rw [if_neg e] at h ⊢
    obtain ⟨b, h1, h2, h3⟩ := h
    exact ⟨b, h1, h2.setOther (a := ⟨m, j, none⟩) (blk_ne h2 hm (by decide)) u, h3⟩
theorem DMid.fin {g : Gr} {W0 wb w5 w6 : World} {m : Nat} {v : Nat → Value} {lo : Nat → Nat} {b6 c6 : Nat} {L : List Nat} (h : DMid g W0 m v lo wb) (h5 : Below wb.heap.size wb w5) (hM : Made w5 w6 b6 c6 L) (ht : TwR g.evs.length (frB g) L) :
    DEnd g W0 m v (pv b6) lo (fun i => if i ≤ 12 then lo i else w6.heap.size) (w6.setCell ⟨m, 3, none⟩ (pv b6)) := by
  have h6 : Below wb.heap.size wb w6 := below_step h5 h5.size hM.below
  have hm := h.blk.of_below h6
  have hs : (w6.setCell ⟨m, 3, none⟩ (pv b6)).heap.size = w6.heap.size := by simp [World.setCell]
  refine ⟨?_, fun i hi => ?_, ?_, fun i hi => ?_, ?_, ?_, ?_, h.hm⟩
  · have := hm.set 3 (pv b6)
    simpa [outV] using this
  · rw [if_pos (by omega), if_pos (by omega)]
    exact ((h.res i hi).below h6).cell hm 3 _
  · rw [if_pos (by omega), if_neg (by omega)]
    refine RelIn.cell ⟨b6, c6, L, rfl, hM.rel, ht, ?_, ?_, hM.rel.head.lt, hM.rel.rows.lt⟩ hm 3 _
    · exact Nat.le_trans h.top (Nat.le_trans h5.size hM.hb)
    · exact Nat.le_trans h.top (Nat.le_trans h5.size hM.hc)
  · by_cases e : i = 12
    · subst e
      rw [if_pos (by omega), if_neg (by omega)]
      exact Nat.le_trans h.top h6.size
    · rw [if_pos (by omega), if_pos (by omega)]
      exact h.mono i (by omega)
  · rw [if_neg (by omega), hs]
    exact Nat.le_refl _
  · rw [if_pos (by omega)]; exact h.bot
  · exact (h.bel.trans (h6.mono h.bel.size)).setCell h.hm _
theorem Tab.step' {w w' : World} (h : Tab w) (hb : Below w.heap.size w w') : Tab w' := h.below (n := 1) (hb.mono (by have := h.pos; omega)) (by omega)
theorem build_run {g : Gr} {x : Nat → Value} {lo : Nat → Nat} {w : World} (h : ∀ i, i < 12 → RES g i (x (slD i)) w (lo i) (lo (i + 1))) (W : World) :
    (Instr.build 36 #[(0, x 17), (1, x 21), (2, x 25), (4, x 29), (5, x 32), (6, x 35), (7, x 39), (8, x 43), (9, x 47), (10, x 49), (11, x 51), (12, x 53)]).run Tryz.prog W = .ok (.agg (outF x)) W := by
  obtain ⟨b0, _, _, e0, _⟩ := (h 0 (by omega)).rel (by omega)
  obtain ⟨b1, _, _, e1, _⟩ := (h 1 (by omega)).rel (by omega)
  obtain ⟨b2, _, _, e2, _⟩ := (h 2 (by omega)).rel (by omega)
  obtain ⟨b3, _, _, e3, _⟩ := (h 3 (by omega)).rel (by omega)
  obtain ⟨b4, _, _, e4, _⟩ := (h 4 (by omega)).rel (by omega)
  obtain ⟨b5, _, _, e5, _⟩ := (h 5 (by omega)).rel (by omega)
  obtain ⟨b6, _, _, e6, _⟩ := (h 6 (by omega)).rel (by omega)
  obtain ⟨b7, _, _, e7, _⟩ := (h 7 (by omega)).rel (by omega)
  obtain ⟨b8, _, _, e8, _⟩ := (h 8 (by omega)).rel (by omega)
  obtain ⟨b9, e9, _⟩ := (h 9 (by omega)).tru (by omega)
  obtain ⟨b10, e10, _⟩ := (h 10 (by omega)).tru (by omega)
  obtain ⟨b11, e11, _⟩ := (h 11 (by omega)).tru (by omega)
  simp only [slD] at e0 e1 e2 e3 e4 e5 e6 e7 e8 e9 e10 e11
  unfold outF
  rw [e0, e1, e2, e3, e4, e5, e6, e7, e8, e9, e10, e11]
  generalize (kndL g _).length = n9
  generalize (kndL g _).length = n10
  generalize (kndL g _).length = n11
  kernel_rfl
theorem calls_args {P : Program} {f : FuncId} {xs ys : Array Value} {w : World} {R : Ending → World → Prop} (h : xs = ys) (hc : Calls P f ys w R) : Calls P f xs w R := h ▸ hc
theorem wp_build {P : Program} {o : Oper} {a : Act} {w : World} {K : Act → World → Prop} {Q : Exit → Act → World → Prop} {t : TypeId} {parts : Array (Nat × Operand)} {ps : Array (Nat × Value)} {v : Value} (ho : o.op = .build t parts)
    (hp : (parts.map fun (i, x) => (i, a.eval x)) = ps) (hr : (Instr.build t ps).run P w = .ok v w) (h : K (a.put o.dst v) w) : o.wp P a w K Q := by
  unfold Oper.wp execOp
  simp only [ho, hp, hr, Sem.run_bind, Sem.run_pure, Result.andThen_ok]
  exact h
structure DBase (V : GrV) (g : Gr) (w : World) (gb lb : Nat) (W0 : World) : Prop where
  gr : GrR w V g
  bel : Below w.heap.size w W0
  gblk : Blk W0 gb 26 (V.gs g)
  lblk : Blk W0 lb 22 #[V.ev]
  hn : g.evs.length ≤ 256
theorem DBase.belW {V : GrV} {g : Gr} {w : World} {gb lb : Nat} {W0 W : World} (h : DBase V g w gb lb W0) (hb : Below W0.heap.size W0 W) : Below w.heap.size w W := below_step h.bel h.bel.size hb
def DS (V : GrV) (gb lb : Nat) (w : World) : Prop := w.cell? ⟨gb, 2, none⟩ = some V.rf ∧ w.cell? ⟨gb, 3, none⟩ = some V.co ∧ w.cell? ⟨gb, 4, none⟩ = some V.rmw ∧ w.cell? ⟨gb, 5, none⟩ = some V.addr ∧ w.cell? ⟨gb, 6, none⟩ = some V.dat ∧ w.cell? ⟨gb, 7, none⟩ = some V.ctrl ∧ w.cell? ⟨lb, 0, none⟩ = some V.ev
theorem DBase.s {V : GrV} {g : Gr} {w : World} {gb lb : Nat} {W0 W : World} (h : DBase V g w gb lb W0) (hb : Below W0.heap.size W0 W) : DS V gb lb W :=
  ⟨(h.gblk.of_below hb).cell rfl, (h.gblk.of_below hb).cell rfl, (h.gblk.of_below hb).cell rfl, (h.gblk.of_below hb).cell rfl, (h.gblk.of_below hb).cell rfl, (h.gblk.of_below hb).cell rfl, (h.lblk.of_below hb).cell rfl⟩
set_option linter.unusedSimpArgs false in
set_option maxRecDepth 100000 in
set_option maxHeartbeats 16000000 in
theorem gDerive_calls (V : GrV) (g : Gr) (w : World) (h : GrR w V g) (hF : Frm w) (hT : Tab w) :
    Calls Tryz.prog 12 #[V.val g] w (DerR g w) := by
  obtain ⟨Ve, Vr, Vc, Vm, Va, Vd, Vt⟩ := V
  obtain ⟨pe, ce, ee, hp, _⟩ := h.ev
  dsimp only at ee
  subst ee
  have hgb0 := Blk.new w 26 (GrV.gs ⟨.slice pe g.evs.length ce, Vr, Vc, Vm, Va, Vd, Vt⟩ g)
  obtain ⟨Wa, hWa⟩ : ∃ Wa, w.alloc (.cells (GrV.gs ⟨.slice pe g.evs.length ce, Vr, Vc, Vm, Va, Vd, Vt⟩ g) 26) = Wa := ⟨_, rfl⟩
  rw [hWa] at hgb0
  have hBa : Below w.heap.size w Wa := by rw [← hWa]; exact (Below.refl _ _).alloc (Nat.le_refl _) _
  have hsa : Wa.heap.size = w.heap.size + 1 := by rw [← hWa]; simp
  have hrb0 := Blk.new Wa 36 nilF
  have hBb : Below Wa.heap.size Wa (Wa.alloc (.cells nilF 36)) := (Below.refl _ _).alloc (Nat.le_refl _) _
  generalize hWb : Wa.alloc (.cells nilF 36) = Wb at *
  rw [hsa] at hrb0
  have e2 : Hid ((w.alloc (.cells #[.int .i64 g.cells, .slice pe g.evs.length ce, Vr, Vc, Vm, Va, Vd, Vt] 26)).alloc (.cells #[.pointer none, .pointer none, .pointer none, .pointer none, .pointer none, .pointer none, .pointer none, .pointer none, .pointer none, .pointer none, .slice none 0 0, .slice none 0 0, .slice none 0 0] 36) = Wb) := by rw [Hid, ← hWb, ← hWa]; rfl
  have HBb : Hid (Below w.heap.size w Wb) := hBa.trans (hBb.mono hBa.size)
  have hw := gWell_calls _ g Wb (h.below HBb.out) (hF.step HBb.out)
  unfold GrV.val at hw
  dsimp only at hw
  have HGB := hid_of (hgb0.of_below hBb)
  have HRB := hid_of hrb0
  generalize hwf : wfB g = q at hw
  have HWF := hid_of hwf
  have HW := hid_of hw
  have H := hid_of h
  have HT := hid_of hT
  clear hwf hw hp h hF hT hgb0 hrb0 hBa hBb hsa hWa hWb
  have x0 : Wb.cell? ⟨w.heap.size, 0, none⟩ = some (.int .i64 g.cells) := HGB.out.cell rfl
  have x1 : Wb.cell? ⟨w.heap.size, 1, none⟩ = some (.slice pe g.evs.length ce) := HGB.out.cell rfl
  have x2 : Wb.cell? ⟨w.heap.size, 2, none⟩ = some Vr := HGB.out.cell rfl
  have x3 : Wb.cell? ⟨w.heap.size, 3, none⟩ = some Vc := HGB.out.cell rfl
  have x4 : Wb.cell? ⟨w.heap.size, 4, none⟩ = some Vm := HGB.out.cell rfl
  have x5 : Wb.cell? ⟨w.heap.size, 5, none⟩ = some Va := HGB.out.cell rfl
  have x6 : Wb.cell? ⟨w.heap.size, 6, none⟩ = some Vd := HGB.out.cell rfl
  have x7 : Wb.cell? ⟨w.heap.size, 7, none⟩ = some Vt := HGB.out.cell rfl
  have hgw : w.heap.size < Wb.heap.size := HGB.out.lt
  unfold GrV.val
  dsimp only
  go_enter Tryz.func12, Tryz.ntmps12
  go_upto_region 1 with fail
  rw [e2.out]
  clear e2
  have hrbw : w.heap.size + 1 < Wb.heap.size := HRB.out.lt
  have hrbn : Hid (w.heap.size < w.heap.size + 1) := Nat.lt_succ_self _
  generalize w.heap.size + 1 = rb at *
  cases q
  · go_upto_region 2 with (first | (go_at_call 50; refine HW.out.mono ?_; rintro e w1 ⟨rfl, hB2⟩))
    have hR := HRB.out.of_below hB2
    go_wp2_with (first | refine wpList_store_row rfl 36 _ _ rfl rb nilF rfl rfl 36 _ hR (by kernel_rfl) rfl nilF_all ?_)
    (try simp only [Exit.inBlock, Exit.then])
    refine bodyPost_ret (results_cell2 rfl _ _ rb 36 nilF (0, 0) _ rfl (hR.setRow' nilF) Tryz.underlying36 rfl (by kernel_rfl)) rfl ?_
    exact .inr ⟨HWF.out, rfl, (below_step HBb.out HBb.out.size hB2).trans (below_row _ (by have := hrbn.out; omega))⟩
  · have hn := wf_len HWF.out
    go_upto_region 5 with (first | (go_at_call 50; refine HW.out.mono ?_; rintro e w1 ⟨rfl, hB2⟩; have y1 := (HGB.out.of_below hB2).cell (j := 1) (v := .slice pe g.evs.length ce) rfl))
    have hlb := Blk.new w1 22 #[.slice pe g.evs.length ce]
    have hBl : Below w1.heap.size w1 (w1.alloc (.cells #[.slice pe g.evs.length ce] 22)) := (Below.refl _ _).alloc (Nat.le_refl _) _
    have hrb2 : Blk (w1.alloc (.cells #[.slice pe g.evs.length ce] 22)) rb 36 nilF := (HRB.out.of_below hB2).alloc _
    have hgb2 := (HGB.out.of_below hB2).alloc (.cells #[.slice pe g.evs.length ce] 22)
    have hBW := below_step (below_step HBb.out HBb.out.size hB2) (below_step HBb.out HBb.out.size hB2).size hBl
    generalize w1.alloc (.cells #[.slice pe g.evs.length ce] 22) = W0 at *
    generalize w1.heap.size = lb at *
    have HBASE : Hid (DBase ⟨.slice pe g.evs.length ce, Vr, Vc, Vm, Va, Vd, Vt⟩ g w w.heap.size lb W0) := ⟨H.out, hBW, hgb2, hlb, hn⟩
    have HRB2 := hid_of hrb2
    have HBW := hid_of hBW
    clear hlb hBl hrb2 hgb2 hBW y1 x0 x1 x2 x3 x4 x5 x6 x7 hB2 HW
    go_cut [6] (fun v6 wx => ∃ m v lo, v6 = pv m ∧ Hid (DMid g W0 m v lo wx))
    case first =>
      refine wp_region_held_drew (S := (fun w' => w'.cell? ⟨w.heap.size, 2, none⟩ = some Vr ∧ w'.cell? ⟨w.heap.size, 3, none⟩ = some Vc ∧ w'.cell? ⟨w.heap.size, 4, none⟩ = some Vm ∧ w'.cell? ⟨w.heap.size, 5, none⟩ = some Va ∧ w'.cell? ⟨w.heap.size, 6, none⟩ = some Vd ∧ w'.cell? ⟨w.heap.size, 7, none⟩ = some Vt ∧ w'.cell? ⟨lb, 0, none⟩ = some (.slice pe g.evs.length ce))) (by kernel_rfl) (HBASE.out.s (Below.refl _ _).drew) (fun hHeld => ?_)
      refine tk 0 rfl ?_; simp only [zz]
      refine tk 1 rfl ?_; simp only [zz]
      refine tk 3 rfl ?_; simp only [zz]
      refine tk 4 rfl ?_; simp only [zz]
      refine tk 5 rfl ?_; simp only [zz]
      refine tk 7 rfl ?_; simp only [zz]
      refine tk 8 rfl ?_; simp only [zz]
      refine tk 9 rfl ?_; simp only [zz]
      refine tk 11 rfl ?_; simp only [zz]
      refine tk 12 rfl ?_; simp only [zz]
      refine tk 13 rfl ?_; simp only [zz]
      refine tk 15 rfl ?_; simp only [zz]
      refine tk 16 rfl ?_; simp only [zz]
      refine tk 18 rfl ?_; simp only [zz]
      refine tk 19 rfl ?_; simp only [zz]
      refine tk 21 rfl ?_; simp only [zz]
      refine tk 22 rfl ?_; simp only [zz]
      refine tk 23 rfl ?_; simp only [zz]
      refine tk 25 rfl ?_; simp only [zz]
      refine tk 26 rfl ?_; simp only [zz]
      refine tk 27 rfl ?_; simp only [zz]
      refine tk 29 rfl ?_; simp only [zz]
      refine tk 30 rfl ?_; simp only [zz]
      refine tk 31 rfl ?_; simp only [zz]
      refine tk 33 rfl ?_; simp only [zz]
      refine tk 35 rfl ?_; simp only [zz]
      refine tk 37 rfl ?_; simp only [zz]
      refine (wpAnyH_chain callD 40 1 LD (DAct ⟨.slice pe g.evs.length ce, Vr, Vc, Vm, Va, Vd, Vt⟩ g w.heap.size lb rb W0) LD_set LD_setA (by decide +kernel) (by decide +kernel) (by kernel_rfl) ?step ?stepA ?fin 13 0 rfl _ _ hHeld).2 ?start
      case start => exact DAct.start rfl (by simp only [fixD, List.forall_mem_cons]; exact ⟨rfl, rfl, rfl, rfl, rfl, rfl, rfl, rfl, rfl, rfl, rfl, rfl, rfl, rfl, rfl, rfl, rfl, rfl, rfl, rfl, rfl, rfl, rfl, rfl, rfl, rfl, rfl, fun _ h => by cases h⟩) (Below.refl _ _).drew
      case step =>
        intro j hj fl a wj hA hS
        obtain ⟨x, lo, rfl, hI⟩ := hA
        match j, hj with
        | 0, _ =>
          have h15 : x 15 = .int .i64 ((g.evs.length : Nat) : Int) := hI.fix (15, _) (by simp [fixD])
          have h16 : x 16 = .func (.func 52) #[] #[pv lb] := hI.fix (16, _) (by simp [fixD])
          have HC := hid_of (gBetween_der1 (.slice pe g.evs.length ce) g.evs lb wj (HBASE.out.lblk.of_below hI.bel) (HBASE.out.gr.ev.below (HBASE.out.belW hI.bel)) hn)
          have HC2 := hid_of (calls_args (xs := #[x 15, x 16]) (by rw [h15, h16]) HC.out)
          clear HC h15 h16
          refine wpOp_step (i := 2) rfl (fun K' hK => ?_)
          have HK := hid_of hK
          clear hK
          simp only [z1, z2, z3]
          go_simp
          refine HC2.out.mono ?_
          rintro e w' ⟨b2, c2, L, rfl, hM, hTw⟩
          exact HK.out _ _ ⟨HBASE.out.s (hI.bel.trans (hM.below.mono hI.bel.size)), _, _, rfl, hI.call (v := pv b2) (by omega) (RES.mkRel (by omega) hM hTw) hM.below⟩
        | 1, _ =>
          have h18 : x 18 = .int .i64 ((g.evs.length : Nat) : Int) := hI.fix (18, _) (by simp [fixD])
          have h20 : x 20 = Vr := hI.fix (20, _) (by simp [fixD])
          have HC := hid_of (OfT ((g.evs.length : Nat) : Int) Vr g.rf wj (HBASE.out.gr.rf.below (HBASE.out.belW hI.bel)))
          have HC2 := hid_of (calls_args (xs := #[x 18, x 20]) (by rw [h18, h20]) HC.out)
          clear HC h18 h20
          refine wpOp_step (i := 6) rfl (fun K' hK => ?_)
          have HK := hid_of hK
          clear hK
          simp only [z1, z2, z3]
          go_simp
          refine HC2.out.mono ?_
          rintro e w' ⟨b2, c2, rfl, hM⟩
          exact HK.out _ _ ⟨HBASE.out.s (hI.bel.trans (hM.below.mono hI.bel.size)), _, _, rfl, hI.call (v := pv b2) (by omega) (RES.mkRel (by omega) hM (ofL_twr hn _)) hM.below⟩
        | 2, _ =>
          have h22 : x 22 = .int .i64 ((g.evs.length : Nat) : Int) := hI.fix (22, _) (by simp [fixD])
          have h24 : x 24 = Vc := hI.fix (24, _) (by simp [fixD])
          have HC := hid_of (gOrdered_calls g.evs.length Vc g.co wj (HBASE.out.gr.co.below (HBASE.out.belW hI.bel)) hn)
          have HC2 := hid_of (calls_args (xs := #[x 22, x 24]) (by rw [h22, h24]) HC.out)
          clear HC h22 h24
          refine wpOp_step (i := 10) rfl (fun K' hK => ?_)
          have HK := hid_of hK
          clear hK
          simp only [z1, z2, z3]
          go_simp
          refine HC2.out.mono ?_
          rintro e w' ⟨b2, c2, L, rfl, hM, hTw⟩
          exact HK.out _ _ ⟨HBASE.out.s (hI.bel.trans (hM.below.mono hI.bel.size)), _, _, rfl, hI.call (v := pv b2) (by omega) (RES.mkRel (by omega) hM hTw) hM.below⟩
        | 3, _ =>
          have h26 : x 26 = .int .i64 ((g.evs.length : Nat) : Int) := hI.fix (26, _) (by simp [fixD])
          have h28 : x 28 = Vm := hI.fix (28, _) (by simp [fixD])
          have HC := hid_of (OfT ((g.evs.length : Nat) : Int) Vm g.rmw wj (HBASE.out.gr.rmw.below (HBASE.out.belW hI.bel)))
          have HC2 := hid_of (calls_args (xs := #[x 26, x 28]) (by rw [h26, h28]) HC.out)
          clear HC h26 h28
          refine wpOp_step (i := 14) rfl (fun K' hK => ?_)
          have HK := hid_of hK
          clear hK
          simp only [z1, z2, z3]
          go_simp
          refine HC2.out.mono ?_
          rintro e w' ⟨b2, c2, rfl, hM⟩
          exact HK.out _ _ ⟨HBASE.out.s (hI.bel.trans (hM.below.mono hI.bel.size)), _, _, rfl, hI.call (v := pv b2) (by omega) (RES.mkRel (by omega) hM (ofL_twr hn _)) hM.below⟩
        | 4, _ =>
          have h30 : x 30 = .int .i64 ((g.evs.length : Nat) : Int) := hI.fix (30, _) (by simp [fixD])
          have h31 : x 31 = .func (.func 56) #[] #[pv lb] := hI.fix (31, _) (by simp [fixD])
          have HC := hid_of (gBetween_der2 (.slice pe g.evs.length ce) g.evs lb wj (HBASE.out.lblk.of_below hI.bel) (HBASE.out.gr.ev.below (HBASE.out.belW hI.bel)) hn)
          have HC2 := hid_of (calls_args (xs := #[x 30, x 31]) (by rw [h30, h31]) HC.out)
          clear HC h30 h31
          refine wpOp_step (i := 17) rfl (fun K' hK => ?_)
          have HK := hid_of hK
          clear hK
          simp only [z1, z2, z3]
          go_simp
          refine HC2.out.mono ?_
          rintro e w' ⟨b2, c2, L, rfl, hM, hTw⟩
          exact HK.out _ _ ⟨HBASE.out.s (hI.bel.trans (hM.below.mono hI.bel.size)), _, _, rfl, hI.call (v := pv b2) (by omega) (RES.mkRel (by omega) hM hTw) hM.below⟩
        | 5, _ =>
          have h33 : x 33 = .int .i64 ((g.evs.length : Nat) : Int) := hI.fix (33, _) (by simp [fixD])
          have h34 : x 34 = .func (.func 58) #[] #[pv lb] := hI.fix (34, _) (by simp [fixD])
          have HC := hid_of (gBetween_der3 (.slice pe g.evs.length ce) g.evs lb wj (HBASE.out.lblk.of_below hI.bel) (HBASE.out.gr.ev.below (HBASE.out.belW hI.bel)) hn)
          have HC2 := hid_of (calls_args (xs := #[x 33, x 34]) (by rw [h33, h34]) HC.out)
          clear HC h33 h34
          refine wpOp_step (i := 20) rfl (fun K' hK => ?_)
          have HK := hid_of hK
          clear hK
          simp only [z1, z2, z3]
          go_simp
          refine HC2.out.mono ?_
          rintro e w' ⟨b2, c2, L, rfl, hM, hTw⟩
          exact HK.out _ _ ⟨HBASE.out.s (hI.bel.trans (hM.below.mono hI.bel.size)), _, _, rfl, hI.call (v := pv b2) (by omega) (RES.mkRel (by omega) hM hTw) hM.below⟩
        | 6, _ =>
          have h36 : x 36 = .int .i64 ((g.evs.length : Nat) : Int) := hI.fix (36, _) (by simp [fixD])
          have h38 : x 38 = Va := hI.fix (38, _) (by simp [fixD])
          have HC := hid_of (OfT ((g.evs.length : Nat) : Int) Va g.addr wj (HBASE.out.gr.addr.below (HBASE.out.belW hI.bel)))
          have HC2 := hid_of (calls_args (xs := #[x 36, x 38]) (by rw [h36, h38]) HC.out)
          clear HC h36 h38
          refine wpOp_step (i := 24) rfl (fun K' hK => ?_)
          have HK := hid_of hK
          clear hK
          simp only [z1, z2, z3]
          go_simp
          refine HC2.out.mono ?_
          rintro e w' ⟨b2, c2, rfl, hM⟩
          exact HK.out _ _ ⟨HBASE.out.s (hI.bel.trans (hM.below.mono hI.bel.size)), _, _, rfl, hI.call (v := pv b2) (by omega) (RES.mkRel (by omega) hM (ofL_twr hn _)) hM.below⟩
        | 7, _ =>
          have h40 : x 40 = .int .i64 ((g.evs.length : Nat) : Int) := hI.fix (40, _) (by simp [fixD])
          have h42 : x 42 = Vd := hI.fix (42, _) (by simp [fixD])
          have HC := hid_of (OfT ((g.evs.length : Nat) : Int) Vd g.dat wj (HBASE.out.gr.dat.below (HBASE.out.belW hI.bel)))
          have HC2 := hid_of (calls_args (xs := #[x 40, x 42]) (by rw [h40, h42]) HC.out)
          clear HC h40 h42
          refine wpOp_step (i := 28) rfl (fun K' hK => ?_)
          have HK := hid_of hK
          clear hK
          simp only [z1, z2, z3]
          go_simp
          refine HC2.out.mono ?_
          rintro e w' ⟨b2, c2, rfl, hM⟩
          exact HK.out _ _ ⟨HBASE.out.s (hI.bel.trans (hM.below.mono hI.bel.size)), _, _, rfl, hI.call (v := pv b2) (by omega) (RES.mkRel (by omega) hM (ofL_twr hn _)) hM.below⟩
        | 8, _ =>
          have h44 : x 44 = .int .i64 ((g.evs.length : Nat) : Int) := hI.fix (44, _) (by simp [fixD])
          have h46 : x 46 = Vt := hI.fix (46, _) (by simp [fixD])
          have HC := hid_of (OfT ((g.evs.length : Nat) : Int) Vt g.ctrl wj (HBASE.out.gr.ctrl.below (HBASE.out.belW hI.bel)))
          have HC2 := hid_of (calls_args (xs := #[x 44, x 46]) (by rw [h44, h46]) HC.out)
          clear HC h44 h46
          refine wpOp_step (i := 32) rfl (fun K' hK => ?_)
          have HK := hid_of hK
          clear hK
          simp only [z1, z2, z3]
          go_simp
          refine HC2.out.mono ?_
          rintro e w' ⟨b2, c2, rfl, hM⟩
          exact HK.out _ _ ⟨HBASE.out.s (hI.bel.trans (hM.below.mono hI.bel.size)), _, _, rfl, hI.call (v := pv b2) (by omega) (RES.mkRel (by omega) hM (ofL_twr hn _)) hM.below⟩
        | 9, _ =>
          have h48 : x 48 = .slice pe g.evs.length ce := hI.fix (48, _) (by simp [fixD])
          have HC := hid_of (gOfKind_calls (.slice pe g.evs.length ce) g.evs 1 wj (HBASE.out.gr.ev.below (HBASE.out.belW hI.bel)))
          have HC2 := hid_of (calls_args (xs := #[x 48, .int .i64 1]) (by rw [h48]) HC.out)
          clear HC h48
          refine wpOp_step (i := 34) rfl (fun K' hK => ?_)
          have HK := hid_of hK
          clear hK
          simp only [z1, z2, z3]
          go_simp
          refine HC2.out.mono ?_
          rintro e w' ⟨b2, rfl, hk2, hl2, hB2⟩
          exact HK.out _ _ ⟨HBASE.out.s (hI.bel.trans (hB2.mono hI.bel.size)), _, _, rfl, hI.call (v := .slice (some ⟨b2, 0, none⟩) g.evs.length g.evs.length) (by omega) (RES.mkTru (by omega) 1 (by omega) hk2 hl2) hB2⟩
        | 10, _ =>
          have h50 : x 50 = .slice pe g.evs.length ce := hI.fix (50, _) (by simp [fixD])
          have HC := hid_of (gOfKind_calls (.slice pe g.evs.length ce) g.evs 2 wj (HBASE.out.gr.ev.below (HBASE.out.belW hI.bel)))
          have HC2 := hid_of (calls_args (xs := #[x 50, .int .i64 2]) (by rw [h50]) HC.out)
          clear HC h50
          refine wpOp_step (i := 36) rfl (fun K' hK => ?_)
          have HK := hid_of hK
          clear hK
          simp only [z1, z2, z3]
          go_simp
          refine HC2.out.mono ?_
          rintro e w' ⟨b2, rfl, hk2, hl2, hB2⟩
          exact HK.out _ _ ⟨HBASE.out.s (hI.bel.trans (hB2.mono hI.bel.size)), _, _, rfl, hI.call (v := .slice (some ⟨b2, 0, none⟩) g.evs.length g.evs.length) (by omega) (RES.mkTru (by omega) 2 (by omega) hk2 hl2) hB2⟩
        | 11, _ =>
          have h52 : x 52 = .slice pe g.evs.length ce := hI.fix (52, _) (by simp [fixD])
          have HC := hid_of (gOfKind_calls (.slice pe g.evs.length ce) g.evs 3 wj (HBASE.out.gr.ev.below (HBASE.out.belW hI.bel)))
          have HC2 := hid_of (calls_args (xs := #[x 52, .int .i64 3]) (by rw [h52]) HC.out)
          clear HC h52
          refine wpOp_step (i := 38) rfl (fun K' hK => ?_)
          have HK := hid_of hK
          clear hK
          simp only [z1, z2, z3]
          go_simp
          refine HC2.out.mono ?_
          rintro e w' ⟨b2, rfl, hk2, hl2, hB2⟩
          exact HK.out _ _ ⟨HBASE.out.s (hI.bel.trans (hB2.mono hI.bel.size)), _, _, rfl, hI.call (v := .slice (some ⟨b2, 0, none⟩) g.evs.length g.evs.length) (by omega) (RES.mkTru (by omega) 3 (by omega) hk2 hl2) hB2⟩
        | 12, _ =>
          have hbr := build_run (fun i hi => hI.res i hi hi) wj
          refine wpOp_step (i := 39) rfl (fun K' hK => ?_)
          have HK := hid_of hK
          clear hK
          rw [if_pos (by rfl)]
          refine wp_build rfl (by simp [Act.eval]) hbr ?_
          exact HK.out _ _ ⟨hS, _, lo, rfl, hI.build⟩
      case stepA =>
        intro j hj a wj hA hS
        obtain ⟨x, lo, rfl, hI⟩ := hA
        refine wpOp_step (i := 40) rfl (fun K' hK => ?_)
        have HK := hid_of hK
        clear hK
        simp only [z1, z2, z3]
        go_simp
        exact HK.out _ _ ⟨HBASE.out.s (hI.bel.trans ((Below.refl wj.heap.size wj).alloc (Nat.le_refl _) _ |>.mono hI.bel.size)), _, _, rfl, hI.alloc⟩
      case fin =>
        intro a wj hA hS
        obtain ⟨x, lo, rfl, hI⟩ := hA
        obtain ⟨m, h6, hm, hm2⟩ := hI.alc rfl
        have h54 := hI.bld rfl
        refine wpAnyH_ready (rs := [41]) (by kernel_rfl) (by simp) ?_
        refine AllReadyH.cons rfl (fun K hK => ?_) AllReadyH.nil
        rw [if_pos (by rfl)]
        refine wp_store_row 36 (.tmp 6) (.tmp 54) rfl m (outF x) h6 h54 36 _ hm (by kernel_rfl) rfl (outV_all (v := fun i => x (slD i)) (fun i hi => hI.res i (Nat.lt_of_lt_of_le hi (by decide)) hi) _ rfl) ?_
        refine hK.out _ _ (HBASE.out.s (hI.bel.trans (below_row _ hm2))) (fun _ => ?_)
        refine wpAnyH_done (by kernel_rfl) ?_ _
        have g0 : x 0 = .agg #[.int .i64 g.cells, .slice pe g.evs.length ce, Vr, Vc, Vm, Va, Vd, Vt] := hI.fix (0, _) (by simp [fixD, GrV.val])
        have g1 : x 1 = .pointer (some ⟨w.heap.size, 0, none⟩) := hI.fix (1, _) (by simp [fixD])
        have g2 : x 2 = .pointer (some ⟨rb, 0, none⟩) := hI.fix (2, _) (by simp [fixD])
        have g3 : x 3 = .int .i64 0 := hI.fix (3, _) (by simp [fixD])
        have g4 : x 4 = .pointer (some ⟨lb, 0, none⟩) := hI.fix (4, _) (by simp [fixD])
        have g5 : x 5 = .int .i64 ((g.evs.length : Nat) : Int) := hI.fix (5, _) (by simp [fixD])
        have HMM : Hid (DMid g W0 m (fun i => x (slD i)) lo (wj.setRow m (outF x))) := ⟨hm.setRow' _, fun i hi => (hI.res i (Nat.lt_of_lt_of_le hi (by decide)) hi).row hm _, fun i hi => hI.mono i (Nat.lt_of_lt_of_le hi (by decide)) hi, by rw [setRow_size]; exact hI.top, hI.bot, hI.bel.trans (below_row _ hm2), hm2⟩
        show Exit.then _ _ Exit.normal ⟨fr63 x, []⟩ _
        simp only [fr63, g0, g1, g2, g3, g4, g5, h6]
        go_step
        go_step
        go_meet
        case rel => exact ⟨m, _, lo, rfl, HMM⟩
    case rest =>
      obtain ⟨m, v, lo, rfl, HM⟩ := hcut
      obtain ⟨b1, c1, L1, e1, hr1, ht1, _⟩ := (HM.out.res 1 (by omega)).rel (by omega)
      obtain ⟨b2, c2, L2, e2, hr2, ht2, _⟩ := (HM.out.res 2 (by omega)).rel (by omega)
      generalize hwb : wc = wb at *
      clear hwb
      have y1 : wb.cell? ⟨m, 1, none⟩ = some (pv b1) := HM.out.blk.cell (by rw [← e1]; rfl)
      have y2 : wb.cell? ⟨m, 2, none⟩ = some (pv b2) := HM.out.blk.cell (by rw [← e2]; rfl)
      have HBWb : Hid (Below w.heap.size w wb) := below_step HBW.out HBW.out.size HM.out.bel
      have HI := hid_of (Inverse_calls b1 c1 L1 wb.drew hr1.drew (HT.out.step' (HBWb.out.drew)))
      have HR2 := hid_of hr2
      have HTW : Hid (∀ W, Below wb.heap.size wb W → Tab W) := fun W hW => HT.out.step' (below_step HBWb.out HBWb.out.size hW)
      have HFR := hid_of (fr_twr hn (twr_twin ht1 hr1) (twr_twin ht2 hr2))
      have hmw : m < wb.heap.size := HM.out.blk.lt
      have E1 := hid_of e1
      have E2 := hid_of e2
      clear e1 e2 hr1 hr2 ht1 ht2
      go_upto_region 6 with fail
      go_cut [] (fun wx => ∃ f lo3, Hid (DEnd g W0 m v f lo lo3 wx))
      case first =>
        go_region_held3 (fun w' => w'.cell? ⟨m, 1, none⟩ = some (pv b1) ∧ w'.cell? ⟨m, 2, none⟩ = some (pv b2)) (first | assumption | exact ⟨y1, y2⟩)
          (first
          | (go_at_call 30; refine HI.out.mono ?_; rintro e w5 ⟨b5, c5, rfl, hM5⟩; have hB5 : Below wb.heap.size wb w5 := ((Below.refl wb.heap.size wb).drew).trans hM5.below; have K5 : w5.cell? ⟨m, 1, none⟩ = some (pv b1) ∧ w5.cell? ⟨m, 2, none⟩ = some (pv b2) := ⟨(hB5.cell (p := ⟨m, 1, none⟩) hmw).trans y1, (hB5.cell (p := ⟨m, 2, none⟩) hmw).trans y2⟩; have HC5 := hid_of (Comp_calls b5 c5 b2 c2 _ L2 w5 hM5.rel (HR2.out.below hB5) (HTW.out w5 hB5)))
          | (go_at_call 29; refine HC5.out.mono ?_; rintro e w6 ⟨b6, c6, rfl, hM6⟩; have hB6 : Below wb.heap.size wb w6 := below_step hB5 hB5.size hM6.below; have K6 : w6.cell? ⟨m, 1, none⟩ = some (pv b1) ∧ w6.cell? ⟨m, 2, none⟩ = some (pv b2) := ⟨(hB6.cell (p := ⟨m, 1, none⟩) hmw).trans y1, (hB6.cell (p := ⟨m, 2, none⟩) hmw).trans y2⟩; have z3 : w6.cell? ⟨m, 3, none⟩ = some (.pointer none) := (HM.out.blk.of_below hB6).cell rfl; have z3f : w6.frozen? ⟨m, 3, none⟩ = false := (HM.out.blk.of_below hB6).frozen 3; have K7 : (w6.setCell ⟨m, 3, none⟩ (.pointer (some ⟨b6, 0, none⟩))).cell? ⟨m, 1, none⟩ = some (pv b1) ∧ (w6.setCell ⟨m, 3, none⟩ (.pointer (some ⟨b6, 0, none⟩))).cell? ⟨m, 2, none⟩ = some (pv b2) := ⟨((HM.out.blk.of_below hB6).set 3 (pv b6)).cell (by rw [← E1.out]; rfl), ((HM.out.blk.of_below hB6).set 3 (pv b6)).cell (by rw [← E2.out]; rfl)⟩))
        go_wp2_with fail
        go_meet
        case rel => exact ⟨pv b6, _, HM.out.fin hB5 hM6 HFR.out⟩
      case rest =>
        obtain ⟨f, lo3, HE⟩ := hcut
        have hb1 := HE.out.blk
        have hb2 := HRB2.out.of_below HE.out.bel
        go_wp2_with (first | refine wpList_load_row rfl 36 _ rfl m rfl 36 (outV v f) (0, 0) _ hb1 Tryz.underlying36 rfl (by kernel_rfl) ?_ | refine wpList_store_row rfl 36 _ _ rfl rb (outV v f) rfl rfl 36 _ hb2 (by kernel_rfl) rfl (outV_all HE.out.res f HE.out.fr.one) ?_)
        (try simp only [Exit.inBlock, Exit.then])
        refine bodyPost_ret (results_cell2 rfl _ _ rb 36 (outV v f) (0, 0) _ rfl (hb2.setRow' _) Tryz.underlying36 rfl (by kernel_rfl)) rfl ?_
        refine .inl ⟨HWF.out, v, f, lo3, rfl, ⟨fun i hi => (HE.out.res i hi).row hb2 _, HE.out.fr.row hb2 _, HE.out.mono, by rw [setRow_size]; exact HE.out.top, by rw [HE.out.bot]; exact HBW.out.size⟩, ?_⟩
        exact (below_step HBW.out HBW.out.size HE.out.bel).trans (below_row _ (Nat.le_of_lt hrbn.out))
end Go.Proofs.YthiijcappjaagaaGreatDoor
namespace Go.Proofs.YthiijcappjaagaaGreatDoor
open Go.RowKit Go.Shelf Sx
def ListR {α : Type} (enc : α → Value) (w : World) (v : Value) (l : List α) : Prop := ∃ p cap, v = .slice p l.length cap ∧ (0 < l.length → ∃ s o, p = some ⟨s, o, none⟩ ∧ s < w.heap.size ∧ ∀ (i : Nat) (x : α), l[i]? = some x → w.cell? ⟨s, o + i, none⟩ = some (enc x))
abbrev encI1 : Int → Value := fun x => .int .i64 x
abbrev encB1 : Bool → Value := fun x => .bool x
abbrev encU1 : Int → Value := fun x => .int .u64 x
theorem ListR.below {α : Type} {enc : α → Value} {w w' : World} {v : Value} {l : List α} (h : ListR enc w v l) (hb : Below w.heap.size w w') : ListR enc w' v l := by
  obtain ⟨p, cap, e, h1⟩ := h
  refine ⟨p, cap, e, fun h0 => ?_⟩
  obtain ⟨s, o, e2, h2, h3⟩ := h1 h0
  exact ⟨s, o, e2, Nat.lt_of_lt_of_le h2 hb.size, fun i x hx => (hb.cell (p := ⟨s, o + i, none⟩) h2).trans (h3 i x hx)⟩
theorem IntsR.list {w : World} {v : Value} {l : List Int} (h : IntsR w v l) : ListR encI1 w v l := intsR_form h
theorem ListR.ints {w : World} {v : Value} {l : List Int} (h : ListR encI1 w v l) : IntsR w v l := by
  obtain ⟨p, cap, rfl, h1⟩ := h
  by_cases h0 : 0 < l.length
  · obtain ⟨s, o, rfl, h2, h3⟩ := h1 h0
    exact .inr ⟨s, o, cap, rfl, h2, h3⟩
  · have : l = [] := List.eq_nil_of_length_eq_zero (by omega)
    subst this
    exact .inl ⟨p, cap, rfl, rfl⟩
theorem owns_list {α : Type} {enc : α → Value} {w : World} {base : Nat} {e : TypeId} {v : Value} {l : List α} (h : w.ownsRow base e 1 v l.length (l.map enc)) : ListR enc w v l := by
  by_cases h0 : 0 < l.length
  · obtain ⟨s, cap, rfl, h1, h2⟩ := owns_cells h (by simp) h0
    exact ⟨_, _, rfl, fun _ => ⟨s, 0, rfl, h1, fun i x hx => by rw [Nat.zero_add]; exact h2 i _ (by simp [hx])⟩⟩
  · rcases h.2 with ⟨rfl, _⟩ | ⟨g, cap, cur, rfl, _⟩
    · have : l = [] := List.eq_nil_of_length_eq_zero (by omega)
      subst this
      exact ⟨_, _, rfl, fun h => by simp at h⟩
    · exact ⟨_, _, rfl, fun h => absurd h h0⟩
theorem blk_list {α : Type} {enc : α → Value} {w : World} {b : Nat} {t : TypeId} {l : List α} {cap : Nat} (h : Blk w b t (l.map enc).toArray) : ListR enc w (.slice (some ⟨b, 0, none⟩) l.length cap) l :=
  ⟨_, _, rfl, fun _ => ⟨b, 0, rfl, h.lt, fun i x hx => h.cell (by simp [hx])⟩⟩
theorem TruIn.list {w : World} {lo hi : Nat} {v : Value} {l : List Bool} (h : TruIn w lo hi v l) : ListR encB1 w v l := by
  obtain ⟨b, rfl, h1, _⟩ := h
  exact blk_list h1
set_option linter.unusedSimpArgs false in
set_option maxRecDepth 100000 in
set_option maxHeartbeats 4000000 in
theorem l8ints_calls (u v : Value) (l m : List Int) (w : World) (h1 : ListR encI1 w u l) (h2 : ListR encI1 w v m) (hl : l.length ≤ 9223372036854775807) :
    Calls Tryz.prog 22 #[u, v] w fun r w' => r = .returned (.bool (decide (l = m))) ∧ Below w.heap.size w w' := by
  obtain ⟨p1, c1, rfl, hp1⟩ := h1
  obtain ⟨p2, c2, rfl, hp2⟩ := h2
  have HP1 := hid_of hp1
  have HP2 := hid_of hp2
  generalize hr : decide (l = m) = r
  have HR := hid_of hr
  clear hp1 hp2 hr
  go_enter Tryz.func22, Tryz.ntmps22
  by_cases hlm : l.length = m.length
  · rw [← hlm]
    have HLM := hid_of hlm
    clear hlm
    go_wp2_with fail
    go_loopg [5] l.length (fun f i wr => ∃ k : Nat, i = .int .i64 ((k : Nat) : Int) ∧ k ≤ l.length ∧ Hid (k + f = l.length) ∧ Hid (∀ j, j < k → l[j]? = m[j]?) ∧ Hid (Below w.heap.size w wr))
    case atStart => exact ⟨0, rfl, Nat.zero_le _, Nat.zero_add _, (fun j h => by omega), Below.refl _ _⟩
    case round =>
      obtain ⟨k, rfl, hk, HKF, HALL, HB⟩ := hrel
      by_cases hkl : k < l.length
      · obtain ⟨s1, o1, rfl, hs1, k1⟩ := HP1.out (by omega)
        obtain ⟨s2, o2, rfl, hs2, k2⟩ := HP2.out (by have := HLM.out; omega)
        obtain ⟨x, hx⟩ : ∃ x, l[k]? = some x := ⟨_, List.getElem?_eq_getElem hkl⟩
        obtain ⟨y, hy⟩ : ∃ y, m[k]? = some y := ⟨_, List.getElem?_eq_getElem (by have := HLM.out; omega)⟩
        have x0 := (HB.out.cell (p := ⟨s1, o1 + k, none⟩) hs1).trans (k1 k x hx)
        have y0 := (HB.out.cell (p := ⟨s2, o2 + k, none⟩) hs2).trans (k2 k y hy)
        dsimp only [encI1] at x0 y0
        have K0 : (0 : Int) ≤ ((k : Nat) : Int) := by omega
        have K1 : ((k : Nat) : Int) < ((l.length : Nat) : Int) := by omega
        have HX := hid_of hx
        have HY := hid_of hy
        clear k1 k2 hx hy
        by_cases hxy : x = y
        · subst hxy
          have q1 : ((x : Int) != x) = false := by simp
          go_upto_region 6 with fail
          go_quiet (fail)
          go_wp2_with fail
          go_roundg (l.length - (k + 1))
          all_goals skip
          case measure => have := HKF.out; omega
          case rel =>
            refine ⟨k + 1, by go_num, by omega, by have := HKF.out; rw [Hid]; omega, fun j hj => ?_, below_drewN HB.out _⟩
            by_cases e : j = k
            · subst e; rw [HX.out, HY.out]
            · exact HALL.out j (by omega)
        · have q1 : ((x : Int) != y) = true := by simp [hxy]
          obtain rfl : r = false := by
            rw [← HR.out]
            exact decide_eq_false (fun e => hxy (by have := HX.out; rw [e, HY.out] at this; exact (Option.some.inj this).symm))
          go_upto_region 6 with fail
          go_quiet (fail)
          go_wp2_with fail
          go_ret
          exact ⟨rfl, below_drewN HB.out _⟩
      · obtain rfl : k = l.length := by omega
        obtain rfl : r = true := by
          rw [← HR.out]
          refine decide_eq_true (List.ext_getElem? (fun j => ?_))
          by_cases hj : j < l.length
          · exact HALL.out j hj
          · rw [List.getElem?_eq_none (by omega), List.getElem?_eq_none (by have := HLM.out; omega)]
        go_wp2_with fail
        go_ret
        exact ⟨rfl, HB.out⟩
  · have q0 : ((((l.length : Nat) : Int)) != ((m.length : Nat) : Int)) = true := by rw [bne_iff_ne]; omega
    obtain rfl : r = false := by
      rw [← HR.out]
      exact decide_eq_false (fun e => hlm (by rw [e]))
    go_wp2_with fail
    go_ret
    exact ⟨rfl, Below.refl _ _⟩
set_option linter.unusedSimpArgs false in
set_option maxRecDepth 100000 in
set_option maxHeartbeats 4000000 in
theorem l8truths_calls (u v : Value) (l m : List Bool) (w : World) (h1 : ListR encB1 w u l) (h2 : ListR encB1 w v m) (hl : l.length ≤ 9223372036854775807) :
    Calls Tryz.prog 20 #[u, v] w fun r w' => r = .returned (.bool (decide (l = m))) ∧ Below w.heap.size w w' := by
  obtain ⟨p1, c1, rfl, hp1⟩ := h1
  obtain ⟨p2, c2, rfl, hp2⟩ := h2
  have HP1 := hid_of hp1
  have HP2 := hid_of hp2
  generalize hr : decide (l = m) = r
  have HR := hid_of hr
  clear hp1 hp2 hr
  go_enter Tryz.func20, Tryz.ntmps20
  by_cases hlm : l.length = m.length
  · rw [← hlm]
    have HLM := hid_of hlm
    clear hlm
    go_wp2_with fail
    go_loopg [5] l.length (fun f i wr => ∃ k : Nat, i = .int .i64 ((k : Nat) : Int) ∧ k ≤ l.length ∧ Hid (k + f = l.length) ∧ Hid (∀ j, j < k → l[j]? = m[j]?) ∧ Hid (Below w.heap.size w wr))
    case atStart => exact ⟨0, rfl, Nat.zero_le _, Nat.zero_add _, (fun j h => by omega), Below.refl _ _⟩
    case round =>
      obtain ⟨k, rfl, hk, HKF, HALL, HB⟩ := hrel
      by_cases hkl : k < l.length
      · obtain ⟨s1, o1, rfl, hs1, k1⟩ := HP1.out (by omega)
        obtain ⟨s2, o2, rfl, hs2, k2⟩ := HP2.out (by have := HLM.out; omega)
        obtain ⟨x, hx⟩ : ∃ x, l[k]? = some x := ⟨_, List.getElem?_eq_getElem hkl⟩
        obtain ⟨y, hy⟩ : ∃ y, m[k]? = some y := ⟨_, List.getElem?_eq_getElem (by have := HLM.out; omega)⟩
        have x0 := (HB.out.cell (p := ⟨s1, o1 + k, none⟩) hs1).trans (k1 k x hx)
        have y0 := (HB.out.cell (p := ⟨s2, o2 + k, none⟩) hs2).trans (k2 k y hy)
        dsimp only [encB1] at x0 y0
        have K0 : (0 : Int) ≤ ((k : Nat) : Int) := by omega
        have K1 : ((k : Nat) : Int) < ((l.length : Nat) : Int) := by omega
        have HX := hid_of hx
        have HY := hid_of hy
        clear k1 k2 hx hy
        by_cases hxy : x = y
        · subst hxy
          have q1 : ((x : Bool) != x) = false := by simp
          cases x <;> go_upto_region 6 with fail
          all_goals go_quiet (fail)
          all_goals go_wp2_with fail
          all_goals go_roundg (l.length - (k + 1))
          all_goals skip
          case measure => have := HKF.out; omega
          case rel =>
            refine ⟨k + 1, by go_num, by omega, by have := HKF.out; rw [Hid]; omega, fun j hj => ?_, below_drewN HB.out _⟩
            by_cases e : j = k
            · subst e; rw [HX.out, HY.out]
            · exact HALL.out j (by omega)
          case measure => have := HKF.out; omega
          case rel =>
            refine ⟨k + 1, by go_num, by omega, by have := HKF.out; rw [Hid]; omega, fun j hj => ?_, below_drewN HB.out _⟩
            by_cases e : j = k
            · subst e; rw [HX.out, HY.out]
            · exact HALL.out j (by omega)
        · have q1 : ((x : Bool) != y) = true := by simp [hxy]
          obtain rfl : r = false := by
            rw [← HR.out]
            exact decide_eq_false (fun e => hxy (by have := HX.out; rw [e, HY.out] at this; exact (Option.some.inj this).symm))
          cases x <;> cases y <;> (try exact absurd rfl hxy) <;> go_upto_region 6 with fail
          all_goals go_quiet (fail)
          all_goals go_wp2_with fail
          all_goals go_ret
          all_goals exact ⟨rfl, below_drewN HB.out _⟩
      · obtain rfl : k = l.length := by omega
        obtain rfl : r = true := by
          rw [← HR.out]
          refine decide_eq_true (List.ext_getElem? (fun j => ?_))
          by_cases hj : j < l.length
          · exact HALL.out j hj
          · rw [List.getElem?_eq_none (by omega), List.getElem?_eq_none (by have := HLM.out; omega)]
        go_wp2_with fail
        go_ret
        exact ⟨rfl, HB.out⟩
  · have q0 : ((((l.length : Nat) : Int)) != ((m.length : Nat) : Int)) = true := by rw [bne_iff_ne]; omega
    obtain rfl : r = false := by
      rw [← HR.out]
      exact decide_eq_false (fun e => hlm (by rw [e]))
    go_wp2_with fail
    go_ret
    exact ⟨rfl, Below.refl _ _⟩
set_option linter.unusedSimpArgs false in
set_option maxRecDepth 100000 in
set_option maxHeartbeats 4000000 in
theorem l8words_calls (u v : Value) (l m : List Int) (w : World) (h1 : ListR encU1 w u l) (h2 : ListR encU1 w v m) (hl : l.length ≤ 9223372036854775807) :
    Calls Tryz.prog 26 #[u, v] w fun r w' => r = .returned (.bool (decide (l = m))) ∧ Below w.heap.size w w' := by
  obtain ⟨p1, c1, rfl, hp1⟩ := h1
  obtain ⟨p2, c2, rfl, hp2⟩ := h2
  have HP1 := hid_of hp1
  have HP2 := hid_of hp2
  generalize hr : decide (l = m) = r
  have HR := hid_of hr
  clear hp1 hp2 hr
  go_enter Tryz.func26, Tryz.ntmps26
  by_cases hlm : l.length = m.length
  · rw [← hlm]
    have HLM := hid_of hlm
    clear hlm
    go_wp2_with fail
    go_loopg [5] l.length (fun f i wr => ∃ k : Nat, i = .int .i64 ((k : Nat) : Int) ∧ k ≤ l.length ∧ Hid (k + f = l.length) ∧ Hid (∀ j, j < k → l[j]? = m[j]?) ∧ Hid (Below w.heap.size w wr))
    case atStart => exact ⟨0, rfl, Nat.zero_le _, Nat.zero_add _, (fun j h => by omega), Below.refl _ _⟩
    case round =>
      obtain ⟨k, rfl, hk, HKF, HALL, HB⟩ := hrel
      by_cases hkl : k < l.length
      · obtain ⟨s1, o1, rfl, hs1, k1⟩ := HP1.out (by omega)
        obtain ⟨s2, o2, rfl, hs2, k2⟩ := HP2.out (by have := HLM.out; omega)
        obtain ⟨x, hx⟩ : ∃ x, l[k]? = some x := ⟨_, List.getElem?_eq_getElem hkl⟩
        obtain ⟨y, hy⟩ : ∃ y, m[k]? = some y := ⟨_, List.getElem?_eq_getElem (by have := HLM.out; omega)⟩
        have x0 := (HB.out.cell (p := ⟨s1, o1 + k, none⟩) hs1).trans (k1 k x hx)
        have y0 := (HB.out.cell (p := ⟨s2, o2 + k, none⟩) hs2).trans (k2 k y hy)
        dsimp only [encU1] at x0 y0
        have K0 : (0 : Int) ≤ ((k : Nat) : Int) := by omega
        have K1 : ((k : Nat) : Int) < ((l.length : Nat) : Int) := by omega
        have HX := hid_of hx
        have HY := hid_of hy
        clear k1 k2 hx hy
        by_cases hxy : x = y
        · subst hxy
          have q1 : ((x : Int) != x) = false := by simp
          go_upto_region 6 with fail
          go_quiet (fail)
          go_wp2_with fail
          go_roundg (l.length - (k + 1))
          all_goals skip
          case measure => have := HKF.out; omega
          case rel =>
            refine ⟨k + 1, by go_num, by omega, by have := HKF.out; rw [Hid]; omega, fun j hj => ?_, below_drewN HB.out _⟩
            by_cases e : j = k
            · subst e; rw [HX.out, HY.out]
            · exact HALL.out j (by omega)
        · have q1 : ((x : Int) != y) = true := by simp [hxy]
          obtain rfl : r = false := by
            rw [← HR.out]
            exact decide_eq_false (fun e => hxy (by have := HX.out; rw [e, HY.out] at this; exact (Option.some.inj this).symm))
          go_upto_region 6 with fail
          go_quiet (fail)
          go_wp2_with fail
          go_ret
          exact ⟨rfl, below_drewN HB.out _⟩
      · obtain rfl : k = l.length := by omega
        obtain rfl : r = true := by
          rw [← HR.out]
          refine decide_eq_true (List.ext_getElem? (fun j => ?_))
          by_cases hj : j < l.length
          · exact HALL.out j hj
          · rw [List.getElem?_eq_none (by omega), List.getElem?_eq_none (by have := HLM.out; omega)]
        go_wp2_with fail
        go_ret
        exact ⟨rfl, HB.out⟩
  · have q0 : ((((l.length : Nat) : Int)) != ((m.length : Nat) : Int)) = true := by rw [bne_iff_ne]; omega
    obtain rfl : r = false := by
      rw [← HR.out]
      exact decide_eq_false (fun e => hlm (by rw [e]))
    go_wp2_with fail
    go_ret
    exact ⟨rfl, Below.refl _ _⟩
set_option linter.unusedSimpArgs false in
set_option maxRecDepth 100000 in
set_option maxHeartbeats 4000000 in
theorem l8pairs_calls (u v : Value) (l m : List (Int × Int)) (w : World) (h1 : PArg w u l) (h2 : PArg w v m) :
    Calls Tryz.prog 48 #[u, v] w fun r w' => r = .returned (.bool (decide (l = m))) ∧ Below w.heap.size w w' := by
  obtain ⟨p1, c1, rfl, hp1, hl⟩ := parg_form h1
  obtain ⟨p2, c2, rfl, hp2, _⟩ := parg_form h2
  have HP1 := hid_of hp1
  have HP2 := hid_of hp2
  generalize hr : decide (l = m) = r
  have HR := hid_of hr
  clear hp1 hp2 hr h1 h2
  go_enter Tryz.func48, Tryz.ntmps48
  by_cases hlm : l.length = m.length
  · rw [← hlm]
    have HLM := hid_of hlm
    clear hlm
    go_wp2_with fail
    go_loopg [5] l.length (fun f i wr => ∃ k : Nat, i = .int .i64 ((k : Nat) : Int) ∧ k ≤ l.length ∧ Hid (k + f = l.length) ∧ Hid (∀ j, j < k → l[j]? = m[j]?) ∧ Hid (Below w.heap.size w wr))
    case atStart => exact ⟨0, rfl, Nat.zero_le _, Nat.zero_add _, (fun j h => by omega), Below.refl _ _⟩
    case round =>
      obtain ⟨k, rfl, hk, HKF, HALL, HB⟩ := hrel
      by_cases hkl : k < l.length
      · obtain ⟨s1, o1, rfl, k1⟩ := HP1.out (by omega)
        obtain ⟨s2, o2, rfl, k2⟩ := HP2.out (by have := HLM.out; omega)
        obtain ⟨⟨xa, xb⟩, hx⟩ : ∃ x, l[k]? = some x := ⟨_, List.getElem?_eq_getElem hkl⟩
        obtain ⟨⟨ya, yb⟩, hy⟩ : ∃ y, m[k]? = some y := ⟨_, List.getElem?_eq_getElem (by have := HLM.out; omega)⟩
        have x0 := (k1.below HB.out).fst k _ hx
        have x1 := (k1.below HB.out).snd k _ hx
        have y0 := (k2.below HB.out).fst k _ hy
        have y1 := (k2.below HB.out).snd k _ hy
        dsimp only at x0 x1 y0 y1
        have K0 : (0 : Int) ≤ ((k : Nat) : Int) := by omega
        have K1 : ((k : Nat) : Int) < ((l.length : Nat) : Int) := by omega
        have HX := hid_of hx
        have HY := hid_of hy
        have HNE : Hid (¬ (xa = ya ∧ xb = yb) → r = false) := fun h => by
          rw [← HR.out]
          exact decide_eq_false (fun e => h (by have := HX.out; rw [e, HY.out] at this; have := Option.some.inj this; exact ⟨(congrArg Prod.fst this).symm, (congrArg Prod.snd this).symm⟩))
        clear k1 k2 hx hy
        by_cases hxa : xa = ya
        · subst hxa
          by_cases hxb : xb = yb
          · subst hxb
            go_upto_region 6 with fail
            go_quiet (fail)
            go_wp2_with fail
            go_roundg (l.length - (k + 1))
            case measure => have := HKF.out; omega
            case rel =>
              refine ⟨k + 1, by go_num, by omega, by have := HKF.out; rw [Hid]; omega, fun j hj => ?_, below_drewN HB.out _⟩
              by_cases e : j = k
              · subst e; rw [HX.out, HY.out]
              · exact HALL.out j (by omega)
          · have q1 : ((xb : Int) == yb) = false := by rw [beq_eq_false_iff_ne]; exact hxb
            obtain rfl := HNE.out (fun h => hxb h.2)
            go_upto_region 6 with fail
            go_quiet (fail)
            go_wp2_with fail
            go_ret
            exact ⟨rfl, below_drewN HB.out _⟩
        · have q1 : ((xa : Int) == ya) = false := by rw [beq_eq_false_iff_ne]; exact hxa
          obtain rfl := HNE.out (fun h => hxa h.1)
          go_upto_region 6 with fail
          go_quiet (fail)
          go_wp2_with fail
          go_ret
          exact ⟨rfl, below_drewN HB.out _⟩
      · obtain rfl : k = l.length := by omega
        obtain rfl : r = true := by
          rw [← HR.out]
          refine decide_eq_true (List.ext_getElem? (fun j => ?_))
          by_cases hj : j < l.length
          · exact HALL.out j hj
          · rw [List.getElem?_eq_none (by omega), List.getElem?_eq_none (by have := HLM.out; omega)]
        go_wp2_with fail
        go_ret
        exact ⟨rfl, HB.out⟩
  · have q0 : ((((l.length : Nat) : Int)) != ((m.length : Nat) : Int)) = true := by rw [bne_iff_ne]; omega
    obtain rfl : r = false := by
      rw [← HR.out]
      exact decide_eq_false (fun e => hlm (by rw [e]))
    go_wp2_with fail
    go_ret
    exact ⟨rfl, Below.refl _ _⟩
set_option linter.unusedSimpArgs false in
set_option maxRecDepth 100000 in
set_option maxHeartbeats 4000000 in
theorem r8pairs_calls (u v : Value) (l m : List (Int × Int)) (w : World) (h1 : PArg w u l) (h2 : PArg w v m) :
    Calls Tryz.prog 46 #[u, v] w fun r w' => r = .returned (.bool (decide (l = m))) ∧ Below w.heap.size w w' := by
  obtain ⟨p1, c1, rfl, hp1, hl⟩ := parg_form h1
  obtain ⟨p2, c2, rfl, hp2, _⟩ := parg_form h2
  have HP1 := hid_of hp1
  have HP2 := hid_of hp2
  generalize hr : decide (l = m) = r
  have HR := hid_of hr
  clear hp1 hp2 hr h1 h2
  go_enter Tryz.func46, Tryz.ntmps46
  by_cases hlm : l.length = m.length
  · rw [← hlm]
    have HLM := hid_of hlm
    clear hlm
    go_wp2_with fail
    go_loopg [5] l.length (fun f i wr => ∃ k : Nat, i = .int .i64 ((k : Nat) : Int) ∧ k ≤ l.length ∧ Hid (k + f = l.length) ∧ Hid (∀ j, j < k → l[j]? = m[j]?) ∧ Hid (Below w.heap.size w wr))
    case atStart => exact ⟨0, rfl, Nat.zero_le _, Nat.zero_add _, (fun j h => by omega), Below.refl _ _⟩
    case round =>
      obtain ⟨k, rfl, hk, HKF, HALL, HB⟩ := hrel
      by_cases hkl : k < l.length
      · obtain ⟨s1, o1, rfl, k1⟩ := HP1.out (by omega)
        obtain ⟨s2, o2, rfl, k2⟩ := HP2.out (by have := HLM.out; omega)
        obtain ⟨⟨xa, xb⟩, hx⟩ : ∃ x, l[k]? = some x := ⟨_, List.getElem?_eq_getElem hkl⟩
        obtain ⟨⟨ya, yb⟩, hy⟩ : ∃ y, m[k]? = some y := ⟨_, List.getElem?_eq_getElem (by have := HLM.out; omega)⟩
        have x0 := (k1.below HB.out).fst k _ hx
        have x1 := (k1.below HB.out).snd k _ hx
        have y0 := (k2.below HB.out).fst k _ hy
        have y1 := (k2.below HB.out).snd k _ hy
        dsimp only at x0 x1 y0 y1
        have K0 : (0 : Int) ≤ ((k : Nat) : Int) := by omega
        have K1 : ((k : Nat) : Int) < ((l.length : Nat) : Int) := by omega
        have HX := hid_of hx
        have HY := hid_of hy
        have HNE : Hid (¬ (xa = ya ∧ xb = yb) → r = false) := fun h => by
          rw [← HR.out]
          exact decide_eq_false (fun e => h (by have := HX.out; rw [e, HY.out] at this; have := Option.some.inj this; exact ⟨(congrArg Prod.fst this).symm, (congrArg Prod.snd this).symm⟩))
        clear k1 k2 hx hy
        by_cases hxa : xa = ya
        · subst hxa
          by_cases hxb : xb = yb
          · subst hxb
            go_upto_region 6 with fail
            go_quiet (fail)
            go_wp2_with fail
            go_roundg (l.length - (k + 1))
            case measure => have := HKF.out; omega
            case rel =>
              refine ⟨k + 1, by go_num, by omega, by have := HKF.out; rw [Hid]; omega, fun j hj => ?_, below_drewN HB.out _⟩
              by_cases e : j = k
              · subst e; rw [HX.out, HY.out]
              · exact HALL.out j (by omega)
          · have q1 : ((xb : Int) == yb) = false := by rw [beq_eq_false_iff_ne]; exact hxb
            obtain rfl := HNE.out (fun h => hxb h.2)
            go_upto_region 6 with fail
            go_quiet (fail)
            go_wp2_with fail
            go_ret
            exact ⟨rfl, below_drewN HB.out _⟩
        · have q1 : ((xa : Int) == ya) = false := by rw [beq_eq_false_iff_ne]; exact hxa
          obtain rfl := HNE.out (fun h => hxa h.1)
          go_upto_region 6 with fail
          go_quiet (fail)
          go_wp2_with fail
          go_ret
          exact ⟨rfl, below_drewN HB.out _⟩
      · obtain rfl : k = l.length := by omega
        obtain rfl : r = true := by
          rw [← HR.out]
          refine decide_eq_true (List.ext_getElem? (fun j => ?_))
          by_cases hj : j < l.length
          · exact HALL.out j hj
          · rw [List.getElem?_eq_none (by omega), List.getElem?_eq_none (by have := HLM.out; omega)]
        go_wp2_with fail
        go_ret
        exact ⟨rfl, HB.out⟩
  · have q0 : ((((l.length : Nat) : Int)) != ((m.length : Nat) : Int)) = true := by rw [bne_iff_ne]; omega
    obtain rfl : r = false := by
      rw [← HR.out]
      exact decide_eq_false (fun e => hlm (by rw [e]))
    go_wp2_with fail
    go_ret
    exact ⟨rfl, Below.refl _ _⟩
end Go.Proofs.YthiijcappjaagaaGreatDoor
namespace Go.Proofs.YthiijcappjaagaaGreatDoor
open Go.RowKit Go.Shelf Sx
theorem news_one (w : World) (t : TypeId) (v : Value) : ∀ j u, ([v] : List Value)[j]? = some u → (w.alloc (.cells #[v] t)).cell? ((⟨w.heap.size, 0, none⟩ : Addr).add j) = some u := by
  intro j u hj
  match j, hj with
  | 0, hj =>
    simp at hj
    subst hj
    exact (Blk.new w t #[v]).cell (j := 0) rfl
set_option linter.unusedSimpArgs false in
set_option maxRecDepth 100000 in
set_option maxHeartbeats 4000000 in
theorem r8Thread_calls (V : GrV) (g : Gr) (x : Int) (w : World) (h : GrR w V g) :
    Calls Tryz.prog 23 #[V.val g, .int .i64 x] w fun r w' => ∃ u, r = .returned u ∧ w'.ownsRow w.heap.size 3 1 u (numK (fun e => e.t == x) g.evs g.evs.length).length (encJ (toI (numK (fun e => e.t == x) g.evs g.evs.length))) ∧ Below w.heap.size w w' := by
  obtain ⟨i0, hi, hz0, hz1, hz2⟩ := info_parts Tryz.infoint
  obtain ⟨Ve, Vr, Vc, Vm, Va, Vd, Vt⟩ := V
  obtain ⟨pe, ce, ee, hp, hlen, _⟩ := h.ev
  dsimp only at ee
  subst ee
  have HP := hid_of hp
  have hB : Below w.heap.size w (w.alloc (.cells #[.int .i64 g.cells, .slice pe g.evs.length ce, Vr, Vc, Vm, Va, Vd, Vt] 26)) := (Below.refl _ _).alloc (Nat.le_refl _) _
  have hb := Blk.new w 26 #[.int .i64 g.cells, .slice pe g.evs.length ce, Vr, Vc, Vm, Va, Vd, Vt]
  unfold GrV.val
  dsimp only
  clear h hp
  go_enter Tryz.func23, Tryz.ntmps23
  go_wp2_with fail
  have HB := hid_of hB
  have HG := hid_of hb
  generalize w.alloc (.cells #[.int .i64 g.cells, .slice pe g.evs.length ce, Vr, Vc, Vm, Va, Vd, Vt] 26) = W0 at *
  clear hb hB
  go_loopg [5, 6] g.evs.length (fun f ov i wr => ∃ k : Nat, i = .int .i64 ((k : Nat) : Int) ∧ k ≤ g.evs.length ∧ Hid (k + f = g.evs.length) ∧ Hid (wr.ownsRow W0.heap.size 3 1 ov (numK (fun e => e.t == x) g.evs k).length (encJ (toI (numK (fun e => e.t == x) g.evs k)))) ∧ Hid (Below W0.heap.size W0 wr))
  case atStart => exact ⟨0, rfl, Nat.zero_le _, Nat.zero_add _, World.ownsRow_nil _ _ _ _, Below.refl _ _⟩
  case round =>
    obtain ⟨k, rfl, hk, HKF, HO, HW⟩ := hrel
    obtain ⟨oa, ocap, rfl⟩ := owns_len HO.out
    have HBW : Hid (Below w.heap.size w wr) := below_step HB.out HB.out.size HW.out
    have c1 : wr.cell? ⟨w.heap.size, 1, none⟩ = some (.slice pe g.evs.length ce) := (HG.out.of_below HW.out).cell rfl
    by_cases hlt : k < g.evs.length
    · obtain ⟨s, o, rfl, hat⟩ := HP.out (by omega)
      have x0 := (hat.below HBW.out).c0 k _ (evs_at hlt)
      have K0 : (0 : Int) ≤ ((k : Nat) : Int) := by omega
      have K1 : ((k : Nat) : Int) < ((g.evs.length : Nat) : Int) := by omega
      have hnl := numK_len (fun e => e.t == x) g.evs k
      have HY := hid_of (fun h => numK_yes (P := fun e => e.t == x) (l := g.evs) (k := k) h)
      have HN := hid_of (fun h => numK_no (P := fun e => e.t == x) (l := g.evs) (k := k) h)
      have hsz := HW.out.size
      clear hat
      generalize g.evs.getD k Ev.zero = e at *
      obtain ⟨t, kk, ll, vv, m⟩ := e
      dsimp only at x0 HY HN
      cases hq : (t == x)
      · have HE := hid_of (HN.out hq)
        clear HN HY
        go_wp2_with fail
        go_roundg (g.evs.length - (k + 1))
        case measure => have := HKF.out; omega
        case rel => exact ⟨k + 1, by go_num, by omega, by have := HKF.out; rw [Hid]; omega, by rw [Hid, HE.out]; exact HO.out, HW.out⟩
      · have HE := hid_of (HY.out hq)
        clear HN HY
        generalize numK (fun e => e.t == x) g.evs k = nk at *
        go_wp2_with (at_builtin; refine wpList_append_own_at _ rfl _ _ 45 rfl W0.heap.size 3 i0 (.int .i64 0) 1 8 Tryz.underlying45 hi hz0 hz1 hz2 rfl (by decide) (.slice oa nk.length ocap) nk.length (encJ (toI nk)) rfl (HO.out.alloc _) ⟨_, 0, none⟩ 1 1 [.int .i64 ((k : Nat) : Int)] rfl rfl (news_int wr k) (by simp [Value.oneCell']) (by unfold maxLen; omega) (by omega) (by simp; omega) ?_; intro v5 w5 hown' hgrow _ _)
        have hb5 : Below W0.heap.size W0 w5 := (HW.out.alloc hsz _).grown hgrow (by simp; omega) (fun q e => (HO.out.lt q e).1)
        rw [toI_snoc] at hown'
        go_roundg (g.evs.length - (k + 1))
        case measure => have := HKF.out; omega
        case rel => exact ⟨k + 1, by go_num, by omega, by have := HKF.out; rw [Hid]; omega, by rw [Hid, HE.out, List.length_append]; exact hown', hb5⟩
    · obtain rfl : k = g.evs.length := by omega
      go_wp2_with fail
      go_ret
      exact ⟨_, rfl, owns_lo HO.out HB.out.size, HBW.out⟩
def inW (ms : List Int) (m : Int) (j : Nat) : Bool := (ms.take j).contains m
theorem inW_zero (ms : List Int) (m : Int) : inW ms m 0 = false := by simp [inW]
theorem inW_succ {ms : List Int} {m y : Int} {j : Nat} (h : ms[j]? = some y) : inW ms m (j + 1) = (inW ms m j || (m == y)) := by
  unfold inW
  rw [List.take_add_one, h, Bool.eq_iff_iff]
  simp
theorem inW_all (ms : List Int) (m : Int) : inW ms m ms.length = ms.contains m := by simp [inW]
def encBs (l : List Bool) : List Value := l.map encB1
theorem truL_snoc {P : Ev → Bool} {l : List Ev} {k : Nat} {e : Ev} (h : l[k]? = some e) : truL P (l.take (k + 1)) = truL P (l.take k) ++ [P e] := by
  rw [take_snoc' h, truL, truL, List.map_append]
  rfl
set_option linter.unusedSimpArgs false in
set_option maxRecDepth 100000 in
set_option maxHeartbeats 4000000 in
theorem r8With_calls (V : GrV) (g : Gr) (u : Value) (ms : List Int) (w : World) (h : GrR w V g) (hu : IntsR w u ms) (hm : ms.length ≤ 9223372036854775807) :
    Calls Tryz.prog 21 #[V.val g, u] w fun r w' => ∃ v, r = .returned v ∧ w'.ownsRow w.heap.size 4 1 v (truL (fun e => ms.contains e.m) g.evs).length (encBs (truL (fun e => ms.contains e.m) g.evs)) ∧ Below w.heap.size w w' := by
  obtain ⟨i0, hi, hz0, hz1, hz2⟩ := info_parts Tryz.infobool
  obtain ⟨Ve, Vr, Vc, Vm, Va, Vd, Vt⟩ := V
  obtain ⟨pe, ce, ee, hp, hlen, _⟩ := h.ev
  dsimp only at ee
  subst ee
  obtain ⟨pu, cu, rfl, hpu⟩ := hu.list
  have HP := hid_of hp
  have HPU := hid_of hpu
  have hB : Below w.heap.size w (w.alloc (.cells #[.int .i64 g.cells, .slice pe g.evs.length ce, Vr, Vc, Vm, Va, Vd, Vt] 26)) := (Below.refl _ _).alloc (Nat.le_refl _) _
  have hb := Blk.new w 26 #[.int .i64 g.cells, .slice pe g.evs.length ce, Vr, Vc, Vm, Va, Vd, Vt]
  unfold GrV.val
  dsimp only
  clear h hp hu hpu
  go_enter Tryz.func21, Tryz.ntmps21
  go_wp2_with fail
  have HB := hid_of hB
  have HG := hid_of hb
  generalize w.alloc (.cells #[.int .i64 g.cells, .slice pe g.evs.length ce, Vr, Vc, Vm, Va, Vd, Vt] 26) = W0 at *
  clear hb hB
  go_loopg [5, 6] g.evs.length (fun f ov i wr => ∃ k : Nat, i = .int .i64 ((k : Nat) : Int) ∧ k ≤ g.evs.length ∧ Hid (k + f = g.evs.length) ∧ Hid (wr.ownsRow W0.heap.size 4 1 ov (truL (fun e => ms.contains e.m) (g.evs.take k)).length (encBs (truL (fun e => ms.contains e.m) (g.evs.take k)))) ∧ Hid (Below W0.heap.size W0 wr))
  case atStart => exact ⟨0, rfl, Nat.zero_le _, Nat.zero_add _, World.ownsRow_nil _ _ _ _, Below.refl _ _⟩
  case round =>
    obtain ⟨k, rfl, hk, HKF, HO, HW⟩ := hrel
    obtain ⟨oa, ocap, rfl⟩ := owns_len HO.out
    generalize hwq : wr = wa at *
    clear hwq
    have HBW : Hid (Below w.heap.size w wa) := below_step HB.out HB.out.size HW.out
    have c1 : wa.cell? ⟨w.heap.size, 1, none⟩ = some (.slice pe g.evs.length ce) := (HG.out.of_below HW.out).cell rfl
    by_cases hlt : k < g.evs.length
    · obtain ⟨s, o, rfl, hat⟩ := HP.out (by omega)
      have x4 := (hat.below HBW.out).c4 k _ (evs_at hlt)
      have K0 : (0 : Int) ≤ ((k : Nat) : Int) := by omega
      have K1 : ((k : Nat) : Int) < ((g.evs.length : Nat) : Int) := by omega
      have HSN := hid_of (truL_snoc (P := fun e => ms.contains e.m) (evs_at hlt))
      have htl : (truL (fun e => ms.contains e.m) (g.evs.take k)).length ≤ k := by simp [truL]; omega
      have hsz := HW.out.size
      have hszw := HB.out.size
      clear hat
      generalize (g.evs.getD k Ev.zero).m = m at *
      go_wp2_with fail
      go_loopg [7, 8] ms.length (fun f bv j wj => ∃ kj : Nat, j = .int .i64 ((kj : Nat) : Int) ∧ bv = .bool (inW ms m kj) ∧ kj ≤ ms.length ∧ Hid (kj + f = ms.length) ∧ Hid (Below wa.heap.size wa wj))
      case atStart => exact ⟨0, rfl, by rw [inW_zero], Nat.zero_le _, Nat.zero_add _, Below.refl _ _⟩
      case round =>
        obtain ⟨kj, rfl, rfl, hkj, HJF, HJ⟩ := hrel
        generalize hwq2 : wr = wj at *
        clear hwq2
        by_cases hjl : kj < ms.length
        · obtain ⟨s2, o2, rfl, hs2, hcs⟩ := HPU.out (by omega)
          have hy := hcs kj _ (List.getElem?_eq_getElem hjl)
          have HIN := hid_of (inW_succ (m := m) (List.getElem?_eq_getElem hjl))
          generalize ms[kj] = y at *
          have y1 : wj.cell? ⟨s2, o2 + kj, none⟩ = some (.int .i64 y) := (HJ.out.cell (p := ⟨s2, o2 + kj, none⟩) (Nat.lt_of_lt_of_le hs2 HBW.out.size)).trans ((HBW.out.cell (p := ⟨s2, o2 + kj, none⟩) hs2).trans hy)
          have y2 : wj.cell? ⟨s, o + k * 5 + 4, none⟩ = some (.int .i64 m) := by
            rw [HJ.out.cell (p := ⟨s, o + k * 5 + 4, none⟩)]
            · exact x4
            · exact World.block_lt_of_cell? wa _ x4
          have y3 : wj.cell? ⟨w.heap.size, 1, none⟩ = some (.slice (some ⟨s, o, none⟩) g.evs.length ce) := by
            rw [HJ.out.cell (p := ⟨w.heap.size, 1, none⟩)]
            · exact c1
            · exact World.block_lt_of_cell? wa _ c1
          have J0 : (0 : Int) ≤ ((kj : Nat) : Int) := by omega
          have J1 : ((kj : Nat) : Int) < ((ms.length : Nat) : Int) := by omega
          have HX := hid_of x4
          have HC := hid_of c1
          clear hcs hy x4 c1
          generalize inW ms m kj = q at *
          cases q
          · go_upto_region 9 with fail
            go_quiet (fail)
            go_wp2_with fail
            go_roundg (ms.length - (kj + 1))
            case measure => have := HJF.out; omega
            case rel => exact ⟨kj + 1, by go_num, by rw [HIN.out]; simp, by omega, by have := HJF.out; rw [Hid]; omega, below_drewN HJ.out _⟩
          · go_upto_region 9 with fail
            go_quiet (fail)
            go_wp2_with fail
            go_roundg (ms.length - (kj + 1))
            case measure => have := HJF.out; omega
            case rel => exact ⟨kj + 1, by go_num, by rw [HIN.out]; simp, by omega, by have := HJF.out; rw [Hid]; omega, below_drewN HJ.out _⟩
        · obtain rfl : kj = ms.length := by omega
          rw [inW_all]
          have HO' := hid_of (owns_below' HO.out HJ.out)
          have HW' : Hid (Below W0.heap.size W0 wj) := below_step HW.out HW.out.size HJ.out
          have hszj := HJ.out.size
          generalize truL (fun e => ms.contains e.m) (g.evs.take k) = tkk at *
          generalize ms.contains m = cq at *
          go_wp2_with (at_builtin; refine wpList_append_own_at _ rfl _ _ 34 rfl W0.heap.size 4 i0 (.bool false) 1 1 Tryz.underlying34 hi hz0 hz1 hz2 rfl (by decide) (.slice oa tkk.length ocap) tkk.length (encBs tkk) rfl (HO'.out.alloc _) ⟨_, 0, none⟩ 1 1 [.bool cq] rfl rfl (news_one wj 4 _) (by simp [Value.oneCell']) (by unfold maxLen; omega) (by omega) (by simp; omega) ?_; intro v5 w5 hown' hgrow _ _)
          have hb5 : Below W0.heap.size W0 w5 := (HW'.out.alloc (by omega) _).grown hgrow (by simp; omega) (fun q e => (HO'.out.lt q e).1)
          go_roundg (g.evs.length - (k + 1))
          case measure => have := HKF.out; omega
          case rel => exact ⟨k + 1, by go_num, by omega, by have := HKF.out; rw [Hid]; omega, by rw [Hid, HSN.out, List.length_append, encBs, List.map_append]; exact hown', hb5⟩
    · obtain rfl : k = g.evs.length := by omega
      go_wp2_with fail
      go_ret
      refine ⟨_, rfl, ?_, HBW.out⟩
      have := owns_lo HO.out HB.out.size
      simp only [List.take_length] at this ⊢
      exact this
end Go.Proofs.YthiijcappjaagaaGreatDoor
namespace Go.Proofs.YthiijcappjaagaaGreatDoor
open Go.RowKit Go.Shelf Sx
def exG : Gr := ⟨1, [⟨-1, 2, 0, 0, 1⟩, ⟨0, 2, 0, 7, 1⟩, ⟨1, 1, 0, 7, 2⟩, ⟨1, 3, -1, 0, 5⟩], [(1, 2)], [[0, 1]], [], [], [], []⟩
theorem srt01 : srtI [0, 1] = [0, 1] := by
  unfold srtI
  exact List.mergeSort_of_pairwise (by simp)
theorem ex_ord : isOrdB [0, 1] 0 [0, 1] = true := by
  unfold isOrdB
  rw [srt01]
  decide
theorem ex_bad5 : bad5 exG = -1 := by
  have hw : wrs exG 0 4 = [0, 1] := by decide
  have h0 : bad5c exG 0 = false := by
    show (decide (1 ≤ 0) || !isOrdB [0, 1] 0 (wrs exG 0 4)) = false
    rw [hw, ex_ord]
    rfl
  have h1 : fstBad (bad5c exG) 0 exG.cells.toNat = -1 := fstBad_none (fun j _ h => by
    have : j = 0 := by have : exG.cells.toNat = 1 := rfl; omega
    rw [this]; exact h0)
  unfold bad5
  rw [if_pos h1]
  rfl
theorem ex_chk0 : chk exG false = (0, 0) := by
  refine chk_none (fun j hj => ?_)
  match j, hj with
  | 0, _ => decide
  | 1, _ => decide
  | 2, _ => decide
  | 3, _ => decide
  | 4, _ => exact ex_bad5
  | 5, _ => decide
  | 6, _ => decide
  | 7, _ => decide
  | 8, _ => decide
theorem ex_chk1 : chk exG true = (2, 0) := by
  have := chk_hit (g := exG) (q := true) (k := 1) (by omega) (fun j hj => by
    obtain rfl : j = 0 := by omega
    decide) (by decide)
  rw [this]
  decide
theorem ex_wf : wfB exG = true := by unfold wfB; rw [ex_chk0]; rfl
theorem ex_fin : finL exG = [7] := by decide
theorem ex_po : prsF 4 (poB exG.evs) 4 0 = [(2, 3)] := by decide
theorem ex_ext : extB exG.evs 0 1 = true := by decide
theorem ex_rd : kndL exG 1 = [false, false, true, false] := by decide
theorem ex_thr : numK (fun e => e.t == 1) exG.evs exG.evs.length = [2, 3] := by decide
theorem owns_parg {w : World} {base : Nat} {v : Value} {l : List (Nat × Nat)} (h : w.ownsRow base 77 2 v l.length (encPs l)) (hl : l.length ≤ 9223372036854775807) : PArg w v (l.map (fun x => (((x.1 : Nat) : Int), ((x.2 : Nat) : Int)))) := by
  rcases owns_prs h with ⟨rfl, rfl⟩ | ⟨s, cap, rfl, _, hp⟩
  · exact .inl ⟨_, _, rfl, rfl⟩
  · refine .inr ⟨s, 0, cap, by simp, ?_, by simpa using hl⟩
    refine ⟨hp.lt, fun i x hx => ?_, fun i x hx => ?_⟩
    · rw [List.getElem?_map] at hx
      obtain ⟨y, hy, rfl⟩ := Option.map_eq_some_iff.1 hx
      have := hp.fst i y hy
      simpa using this
    · rw [List.getElem?_map] at hx
      obtain ⟨y, hy, rfl⟩ := Option.map_eq_some_iff.1 hx
      have := hp.snd i y hy
      simpa using this
def exE : Array Value := #[.int .i64 (-1), .int .i64 2, .int .i64 0, .int .u64 0, .int .i64 1, .int .i64 0, .int .i64 2, .int .i64 0, .int .u64 7, .int .i64 1, .int .i64 1, .int .i64 1, .int .i64 0, .int .u64 7, .int .i64 2, .int .i64 1, .int .i64 3, .int .i64 (-1), .int .u64 0, .int .i64 5]
theorem ex_evs {w : World} {s : Nat} (hE : Blk w s 63 exE) : EvsAt w s 0 exG.evs :=
  ⟨hE.lt, (fun i e h => by
    match i, h with
    | 0, h => simp [exG] at h; subst h; exact hE.cell rfl
    | 1, h => simp [exG] at h; subst h; exact hE.cell rfl
    | 2, h => simp [exG] at h; subst h; exact hE.cell rfl
    | 3, h => simp [exG] at h; subst h; exact hE.cell rfl
    | n + 4, h => simp [exG] at h), (fun i e h => by
    match i, h with
    | 0, h => simp [exG] at h; subst h; exact hE.cell rfl
    | 1, h => simp [exG] at h; subst h; exact hE.cell rfl
    | 2, h => simp [exG] at h; subst h; exact hE.cell rfl
    | 3, h => simp [exG] at h; subst h; exact hE.cell rfl
    | n + 4, h => simp [exG] at h), (fun i e h => by
    match i, h with
    | 0, h => simp [exG] at h; subst h; exact hE.cell rfl
    | 1, h => simp [exG] at h; subst h; exact hE.cell rfl
    | 2, h => simp [exG] at h; subst h; exact hE.cell rfl
    | 3, h => simp [exG] at h; subst h; exact hE.cell rfl
    | n + 4, h => simp [exG] at h), (fun i e h => by
    match i, h with
    | 0, h => simp [exG] at h; subst h; exact hE.cell rfl
    | 1, h => simp [exG] at h; subst h; exact hE.cell rfl
    | 2, h => simp [exG] at h; subst h; exact hE.cell rfl
    | 3, h => simp [exG] at h; subst h; exact hE.cell rfl
    | n + 4, h => simp [exG] at h), (fun i e h => by
    match i, h with
    | 0, h => simp [exG] at h; subst h; exact hE.cell rfl
    | 1, h => simp [exG] at h; subst h; exact hE.cell rfl
    | 2, h => simp [exG] at h; subst h; exact hE.cell rfl
    | 3, h => simp [exG] at h; subst h; exact hE.cell rfl
    | n + 4, h => simp [exG] at h)⟩
theorem ex_grR {w : World} {e p l k : Nat} (hE : Blk w e 63 exE) (hP : Blk w p 77 #[.int .i64 1, .int .i64 2]) (hL : Blk w l 3 #[.int .i64 0, .int .i64 1]) (hK : Blk w k 45 #[.slice (some ⟨l, 0, none⟩) 2 2]) :
    GrR w ⟨.slice (some ⟨e, 0, none⟩) 4 4, .slice (some ⟨p, 0, none⟩) 1 1, .slice (some ⟨k, 0, none⟩) 1 1, .slice none 0 0, .slice none 0 0, .slice none 0 0, .slice none 0 0⟩ exG := by
  have hp0 : w.cell? ⟨p, 0, none⟩ = some (.int .i64 1) := hP.cell rfl
  have hp1 : w.cell? ⟨p, 1, none⟩ = some (.int .i64 2) := hP.cell rfl
  have hl0 : w.cell? ⟨l, 0, none⟩ = some (.int .i64 0) := hL.cell rfl
  have hl1 : w.cell? ⟨l, 1, none⟩ = some (.int .i64 1) := hL.cell rfl
  have hk0 : w.cell? ⟨k, 0, none⟩ = some (.slice (some ⟨l, 0, none⟩) 2 2) := hK.cell rfl
  refine ⟨⟨_, _, rfl, fun _ => ⟨e, 0, rfl, ex_evs hE⟩, by decide, by decide⟩, .inr ⟨p, 0, 1, rfl, ⟨hP.lt, fun i x h => ?_, fun i x h => ?_⟩, by decide⟩, ⟨_, _, rfl, by decide, [.slice (some ⟨l, 0, none⟩) 2 2], rfl, fun _ => ⟨k, 0, rfl, hK.lt, fun i u h => ?_⟩, fun i u l' hu hl' => ?_⟩, .inl ⟨_, _, rfl, rfl⟩, .inl ⟨_, _, rfl, rfl⟩, .inl ⟨_, _, rfl, rfl⟩, .inl ⟨_, _, rfl, rfl⟩⟩
  · match i, h with
    | 0, h => simp [exG] at h; subst h; exact hp0
    | n + 1, h => simp [exG] at h
  · match i, h with
    | 0, h => simp [exG] at h; subst h; exact hp1
    | n + 1, h => simp [exG] at h
  · match i, h with
    | 0, h => simp at h; subst h; exact hk0
    | n + 1, h => simp at h
  · match i, hu with
    | 0, hu =>
      simp at hu
      subst hu
      simp [exG] at hl'
      subst hl'
      refine ⟨.inr ⟨l, 0, 2, rfl, hL.lt, fun i x h => ?_⟩, by decide, _, _, rfl, by decide⟩
      match i, h with
      | 0, h => simp at h; subst h; exact hl0
      | 1, h => simp at h; subst h; exact hl1
      | n + 2, h => simp at h
    | n + 1, hu => simp at hu
set_option linter.unusedSimpArgs false in
set_option maxRecDepth 100000 in
set_option maxHeartbeats 4000000 in
theorem example_calls (w : World) : Calls Tryz.prog 47 #[] w fun r w' => ∃ V, r = .returned (GrV.val V exG) ∧ GrR w' V exG ∧ Below w.heap.size w w' := by
  go_enter Tryz.func47, Tryz.ntmps47
  go_wp2_with fail
  refine bodyPost_ret (results_cell_row rfl _ _ w.heap.size 26 _ (0, 0) _ rfl (((((Blk.new w 26 _).alloc _).alloc _).alloc _).alloc _) Tryz.underlying26 rfl (by kernel_rfl)) rfl ?_
  refine ⟨_, rfl, ex_grR ((((Blk.new2 w _ 63 exE).alloc _).alloc _).alloc _) (((Blk.new3 w _ _ 77 _).alloc _).alloc _) ((Blk.new4 w _ _ _ 3 _).alloc _) (Blk.new5 w _ _ _ _ 45 _), ?_⟩
  exact (((((Below.refl w.heap.size w).alloc (Nat.le_refl _) _).alloc (by simp) _).alloc (by simp; omega) _).alloc (by simp; omega) _).alloc (by simp; omega) _
end Go.Proofs.YthiijcappjaagaaGreatDoor
namespace Go.Proofs.YthiijcappjaagaaGreatDoor
open Go.RowKit Go.Shelf Sx
abbrev zeroG : Array Value := #[.int .i64 0, .slice none 0 0, .slice none 0 0, .slice none 0 0, .slice none 0 0, .slice none 0 0, .slice none 0 0, .slice none 0 0]
theorem grv_all {w : World} {V : GrV} {g : Gr} (h : GrR w V g) : (V.gs g).all (·.oneCell') = true := by
  obtain ⟨_, _, e1, _⟩ := h.ev
  obtain ⟨_, _, e2, _⟩ := parg_form h.rf
  obtain ⟨_, _, e3, _⟩ := h.co
  obtain ⟨_, _, e4, _⟩ := parg_form h.rmw
  obtain ⟨_, _, e5, _⟩ := parg_form h.addr
  obtain ⟨_, _, e6, _⟩ := parg_form h.dat
  obtain ⟨_, _, e7, _⟩ := parg_form h.ctrl
  unfold GrV.gs
  rw [e1, e2, e3, e4, e5, e6, e7]
  simp [Value.oneCell']
theorem grv_new (w : World) (V : GrV) (g : Gr) : Blk ((w.alloc (.cells zeroG 26)).setRow w.heap.size (V.gs g)) w.heap.size 26 (V.gs g) ∧ Below w.heap.size w ((w.alloc (.cells zeroG 26)).setRow w.heap.size (V.gs g)) :=
  ⟨(Blk.new w 26 zeroG).setRow' _, ((Below.refl w.heap.size w).alloc (Nat.le_refl _) _).trans (below_row _ (Nat.le_refl _))⟩
theorem ex_rel {w : World} {b c : Nat} {L : List Nat} (hr : IsRel w b c L) (ht : TwR 4 (poB exG.evs) L) : pairsL L = [(2, 3)] := by
  rw [twin_pairs (by decide) (twr_twin ht hr)]
  exact ex_po
theorem ex_has {L : List Nat} (ht : TwR 4 (extB exG.evs) L) : hasP L 0 1 = true := by
  unfold hasP inR
  have := ht.same 0 1 (by decide) (by decide)
  rw [ex_ext] at this
  simp [ht.len, ← this]
theorem one_pair (w : World) (a b : Int) : PArg (w.alloc (.cells #[.int .i64 a, .int .i64 b] 77)) (.slice (some ⟨w.heap.size, 0, none⟩) 1 1) [(a, b)] := by
  have hb := Blk.new w 77 #[.int .i64 a, .int .i64 b]
  have h0 : (w.alloc (.cells #[.int .i64 a, .int .i64 b] 77)).cell? ⟨w.heap.size, 0, none⟩ = some (.int .i64 a) := hb.cell rfl
  have h1 : (w.alloc (.cells #[.int .i64 a, .int .i64 b] 77)).cell? ⟨w.heap.size, 1, none⟩ = some (.int .i64 b) := hb.cell rfl
  refine .inr ⟨w.heap.size, 0, 1, rfl, ⟨hb.lt, fun i x h => ?_, fun i x h => ?_⟩, by simp⟩
  · match i, h with
    | 0, h => simp at h; subst h; exact h0
    | n + 1, h => simp at h
  · match i, h with
    | 0, h => simp at h; subst h; exact h1
    | n + 1, h => simp at h
set_option linter.unusedSimpArgs false in
set_option maxRecDepth 100000 in
set_option maxHeartbeats 8000000 in
theorem lives_calls (w : World) (hF : Frm w) (hT : Tab w) : Calls Tryz.prog 11 #[] w fun r w' => r = .returned (.bool true) ∧ Below w.heap.size w w' := by
  have HF := hid_of hF
  have HT := hid_of hT
  clear hF hT
  go_enter Tryz.func11, Tryz.ntmps11
  go_wp2_with fail
  refine (example_calls w).mono ?_
  rintro e w1 ⟨V, rfl, hV, hB1⟩
  have hal := grv_all hV
  obtain ⟨hG, hB2⟩ := grv_new w1 V exG
  have hz := Blk.new w1 26 zeroG
  have HV := hid_of hV
  have HB1 := hid_of hB1
  clear hV hB1
  go_wp2_with (first | refine wpList_store_row rfl 26 _ _ rfl w1.heap.size (V.gs exG) rfl rfl 26 zeroG hz (by kernel_rfl) rfl hal ?_ | refine wpList_load_row rfl 26 _ rfl w1.heap.size rfl 26 (V.gs exG) (0, 0) _ hG Tryz.underlying26 rfl (by kernel_rfl) ?_)
  have HW2 : Hid (Below w.heap.size w ((w1.alloc (.cells zeroG 26)).setRow w1.heap.size (V.gs exG))) := below_step HB1.out HB1.out.size hB2
  have HV2 := hid_of (HV.out.below hB2)
  have HG2 := hid_of hG
  generalize (w1.alloc (.cells zeroG 26)).setRow w1.heap.size (V.gs exG) = w2 at *
  generalize w1.heap.size = gb at *
  clear hz hal hG hB2 HV HB1
  refine (gCheck_calls V exG false w2 HV2.out (HF.out.step HW2.out)).mono ?_
  rw [ex_chk0]
  rintro e w3 ⟨rfl, hB3⟩
  have HW3 : Hid (Below w.heap.size w w3) := below_step HW2.out HW2.out.size hB3
  have HV3 := hid_of (HV2.out.below hB3)
  have hG3 := HG2.out.of_below hB3
  clear hB3 HG2 HV2 HW2
  go_wp2_with (first | refine wpList_load_row rfl 26 _ rfl gb rfl 26 (V.gs exG) (0, 0) _ hG3 Tryz.underlying26 rfl (by kernel_rfl) ?_)
  refine (gCheck_calls V exG true w3 HV3.out (HF.out.step HW3.out)).mono ?_
  rw [ex_chk1]
  rintro e w4 ⟨rfl, hB4⟩
  have HW4 : Hid (Below w.heap.size w w4) := below_step HW3.out HW3.out.size hB4
  have HV4 := hid_of (HV3.out.below hB4)
  have hG4 := hG3.of_below hB4
  clear hB4 hG3 HV3 HW3
  go_wp2_with (first | refine wpList_load_row rfl 26 _ rfl gb rfl 26 (V.gs exG) (0, 0) _ hG4 Tryz.underlying26 rfl (by kernel_rfl) ?_)
  refine (gDerive_calls V exG w4 HV4.out (HF.out.step HW4.out) (HT.out.step' HW4.out)).mono ?_
  rintro e w5 (⟨_, v, f, lo, rfl, hD, hB5⟩ | ⟨hf, _⟩)
  case inr => rw [ex_wf] at hf; cases hf
  have HW5 : Hid (Below w.heap.size w w5) := below_step HW4.out HW4.out.size hB5
  have HV5 := hid_of (HV4.out.below hB5)
  have hG5 := hG4.of_below hB5
  have HD := hid_of hD
  clear hB5 hG4 HV4 HW4 hD
  have hz := Blk.new w5 36 nilF
  have hall := outV_all HD.out.res f HD.out.fr.one
  go_upto_region 5 with (first | refine wpList_store_row rfl 36 _ _ rfl w5.heap.size (outV v f) rfl rfl 36 nilF hz (by kernel_rfl) rfl hall ?_)
  have hB6 : Below w5.heap.size w5 ((w5.alloc (.cells nilF 36)).setRow w5.heap.size (outV v f)) := ((Below.refl w5.heap.size w5).alloc (Nat.le_refl _) _).trans (below_row _ (Nat.le_refl _))
  have HFB := hid_of (hz.setRow' (outV v f))
  have HW6 : Hid (Below w.heap.size w ((w5.alloc (.cells nilF 36)).setRow w5.heap.size (outV v f))) := below_step HW5.out HW5.out.size hB6
  have HV6 := hid_of (HV5.out.below hB6)
  have hG6 := hG5.of_below hB6
  obtain ⟨b0, c0, L0, e0, hr0, ht0, _⟩ := ((HD.out.res 0 (by omega)).rel (by omega)).below hB6
  obtain ⟨b1, c1, L1, e1, hr1, ht1, _⟩ := ((HD.out.res 1 (by omega)).rel (by omega)).below hB6
  obtain ⟨b5, c5, L5, e5, hr5, ht5, _⟩ := ((HD.out.res 5 (by omega)).rel (by omega)).below hB6
  have htr := (((HD.out.res 9 (by omega)).tru (by omega)).below hB6).list
  generalize (w5.alloc (.cells nilF 36)).setRow w5.heap.size (outV v f) = w6 at *
  generalize w5.heap.size = fb at *
  have HR0 := hid_of hr0
  have HR5 := hid_of hr5
  have HT0 := hid_of ht0
  have HT5 := hid_of ht5
  have HTR := hid_of htr
  have E0 := hid_of e0
  have E1 := hid_of e1
  have E5 := hid_of e5
  clear hr0 hr1 hr5 ht0 ht1 ht5 htr hz hall hB6 hG5 HV5 HW5 HD e0 e1 e5
  go_wp2_with (first | refine wpList_load_row rfl 26 _ rfl gb rfl 26 (V.gs exG) (0, 0) _ hG6 Tryz.underlying26 rfl (by kernel_rfl) ?_)
  refine (gFinal_calls V exG w6 HV6.out (HF.out.step HW6.out)).mono ?_
  rintro e w7 (⟨_, u, rfl, hu, hB7⟩ | ⟨hf, _⟩)
  case inr => rw [ex_wf] at hf; cases hf
  rw [ex_fin] at hu
  have HW7 : Hid (Below w.heap.size w w7) := below_step HW6.out HW6.out.size hB7
  have HV7 := hid_of (HV6.out.below hB7)
  have HG7 := hid_of (hG6.of_below hB7)
  have HFB7 := hid_of (HFB.out.of_below hB7)
  have HU := hid_of (owns_list (enc := encU1) (l := [7]) hu)
  have HR07 := hid_of (HR0.out.below hB7)
  have HR57 := hid_of (HR5.out.below hB7)
  have HTR7 := hid_of (HTR.out.below hB7)
  clear hB7 hu hG6 HFB HV6 HW6 HR0 HR5 HTR
  have y0 : w7.cell? ⟨fb, 0, none⟩ = some (pv b0) := HFB7.out.cell (by rw [← E0.out]; rfl)
  have y1 : w7.cell? ⟨fb, 1, none⟩ = some (pv b1) := HFB7.out.cell (by rw [← E1.out]; rfl)
  have y6 : w7.cell? ⟨fb, 6, none⟩ = some (pv b5) := HFB7.out.cell (by rw [← E5.out]; rfl)
  go_wp2_with fail
  have hBa : Below w7.heap.size w7 (w7.alloc (.cells #[.int .u64 7] 56)) := (Below.refl _ _).alloc (Nat.le_refl _) _
  refine (l8words_calls u _ [7] [7] _ (HU.out.below hBa) (blk_list (enc := encU1) (l := [7]) (Blk.new w7 56 #[.int .u64 7])) (by decide)).mono ?_
  rintro e w8 ⟨rfl, hB8'⟩
  have hB8 := hBa.trans (hB8'.mono hBa.size)
  have HW8 : Hid (Below w.heap.size w w8) := below_step HW7.out HW7.out.size hB8
  have HV8 := hid_of (HV7.out.below hB8)
  have HG8 := hid_of (HG7.out.of_below hB8)
  have HFB8 := hid_of (HFB7.out.of_below hB8)
  have HR08 := hid_of (HR07.out.below hB8)
  have HR58 := hid_of (HR57.out.below hB8)
  have HTR8 := hid_of (HTR7.out.below hB8)
  clear hB8 hB8' hBa HW7 HV7 HG7 HFB7 HR07 HR57 HTR7 y0 y1 y6 HU
  have y0 : w8.cell? ⟨fb, 0, none⟩ = some (pv b0) := HFB8.out.cell (by rw [← E0.out]; rfl)
  go_wp2_with fail
  refine (Pairs_calls b0 c0 L0 w8 HR08.out (HT.out.step' HW8.out)).mono ?_
  rintro e w9 ⟨u2, rfl, hu2, hB9⟩
  rw [ex_rel HR08.out HT0.out] at hu2
  have HW9 : Hid (Below w.heap.size w w9) := below_step HW8.out HW8.out.size hB9
  have HV9 := hid_of (HV8.out.below hB9)
  have HG9 := hid_of (HG8.out.of_below hB9)
  have HFB9 := hid_of (HFB8.out.of_below hB9)
  have HR59 := hid_of (HR58.out.below hB9)
  have HTR9 := hid_of (HTR8.out.below hB9)
  have HU2 := hid_of (owns_parg (l := [(2, 3)]) hu2 (by decide))
  clear hu2 hB9 HW8 HV8 HG8 HFB8 HR08 HR58 HTR8 y0
  go_wp2_with fail
  have hBa : Below w9.heap.size w9 (w9.alloc (.cells #[.int .i64 2, .int .i64 3] 77)) := (Below.refl _ _).alloc (Nat.le_refl _) _
  refine (l8pairs_calls u2 _ [(2, 3)] [(2, 3)] _ (HU2.out.below hBa) (one_pair w9 2 3)).mono ?_
  rintro e w10 ⟨rfl, hB10'⟩
  have hB10 := hBa.trans (hB10'.mono hBa.size)
  have HW10 : Hid (Below w.heap.size w w10) := below_step HW9.out HW9.out.size hB10
  have HV10 := hid_of (HV9.out.below hB10)
  have HG10 := hid_of (HG9.out.of_below hB10)
  have HFB10 := hid_of (HFB9.out.of_below hB10)
  have HR510 := hid_of (HR59.out.below hB10)
  have HTR10 := hid_of (HTR9.out.below hB10)
  clear hB10 hB10' hBa HW9 HV9 HG9 HFB9 HR59 HTR9 HU2
  have y6 : w10.cell? ⟨fb, 6, none⟩ = some (pv b5) := HFB10.out.cell (by rw [← E5.out]; rfl)
  go_wp2_with fail
  refine (Has_calls b5 c5 L5 0 1 w10 HR510.out).mono ?_
  rw [ex_has HT5.out]
  rintro e w11 ⟨rfl, hB11⟩
  have HW11 : Hid (Below w.heap.size w w11) := below_step HW10.out HW10.out.size hB11
  have HV11 := hid_of (HV10.out.below hB11)
  have HG11 := hid_of (HG10.out.of_below hB11)
  have HFB11 := hid_of (HFB10.out.of_below hB11)
  have HTR11 := hid_of (HTR10.out.below hB11)
  clear hB11 HW10 HV10 HG10 HFB10 HR510 HTR10 y6
  have y10 : w11.cell? ⟨fb, 10, none⟩ = some (v 9) := HFB11.out.cell rfl
  go_wp2_with fail
  have hBa : Below w11.heap.size w11 (w11.alloc (.cells #[.bool false, .bool false, .bool true, .bool false] 4)) := (Below.refl _ _).alloc (Nat.le_refl _) _
  refine (l8truths_calls (v 9) _ (kndL exG 1) [false, false, true, false] _ (HTR11.out.below hBa) (blk_list (enc := encB1) (l := [false, false, true, false]) (Blk.new w11 4 #[.bool false, .bool false, .bool true, .bool false])) (by decide)).mono ?_
  rw [ex_rd]
  rintro e w12 ⟨rfl, hB12'⟩
  have hB12 := hBa.trans (hB12'.mono hBa.size)
  have HW12 : Hid (Below w.heap.size w w12) := below_step HW11.out HW11.out.size hB12
  have HV12 := hid_of (HV11.out.below hB12)
  have hG12 := HG11.out.of_below hB12
  clear hB12 hB12' hBa HW11 HV11 HG11 HFB11 HTR11 y10
  have x0 : w12.cell? ⟨gb, 0, none⟩ = some (.int .i64 exG.cells) := hG12.cell rfl
  have x1 : w12.cell? ⟨gb, 1, none⟩ = some V.ev := hG12.cell rfl
  have x2 : w12.cell? ⟨gb, 2, none⟩ = some V.rf := hG12.cell rfl
  have x3 : w12.cell? ⟨gb, 3, none⟩ = some V.co := hG12.cell rfl
  have x4 : w12.cell? ⟨gb, 4, none⟩ = some V.rmw := hG12.cell rfl
  have x5 : w12.cell? ⟨gb, 5, none⟩ = some V.addr := hG12.cell rfl
  have x6 : w12.cell? ⟨gb, 6, none⟩ = some V.dat := hG12.cell rfl
  have x7 : w12.cell? ⟨gb, 7, none⟩ = some V.ctrl := hG12.cell rfl
  go_wp2_with fail
  refine (gThread_calls V exG 1 w12 HV12.out).mono ?_
  rintro e w13 ⟨u3, rfl, hu3, hB13⟩
  rw [ex_thr] at hu3
  have HW13 : Hid (Below w.heap.size w w13) := below_step HW12.out HW12.out.size hB13
  have HU3 := hid_of (owns_list (enc := encI1) (l := [2, 3]) hu3)
  clear hu3 hB13 HW12 HV12 hG12 x0 x1 x2 x3 x4 x5 x6 x7
  go_wp2_with fail
  have hBa : Below w13.heap.size w13 (w13.alloc (.cells #[.int .i64 2, .int .i64 3] 3)) := (Below.refl _ _).alloc (Nat.le_refl _) _
  refine (l8ints_calls u3 _ [2, 3] [2, 3] _ (HU3.out.below hBa) (blk_list (enc := encI1) (l := [2, 3]) (Blk.new w13 3 #[.int .i64 2, .int .i64 3])) (by decide)).mono ?_
  rintro e w14 ⟨rfl, hB14'⟩
  have hB14 := hBa.trans (hB14'.mono hBa.size)
  go_wp2_with fail
  go_ret
  exact ⟨rfl, below_step HW13.out HW13.out.size hB14⟩
end Go.Proofs.YthiijcappjaagaaGreatDoor
namespace Go.Proofs.YthiijcappjaagaaGreatDoor
open Go.RowKit Go.Shelf Sx
def modeB (k m : Int) (q : Bool) : Bool :=
  if q then (k == 1 && (m == 11 || m == 12 || m == 16)) || (k == 2 && (m == 11 || m == 13)) || (k == 3 && (m == 14 || m == 15))
  else (k == 1 && (m == 1 || m == 2 || m == 5)) || (k == 2 && (m == 1 || m == 3 || m == 5)) || (k == 3 && (m == 2 || m == 3 || m == 4 || m == 5))
theorem bits_in (N : Nat) (hN : N < 2 ^ 17) (l : List Nat) (h : ∀ i, i < 17 → N.testBit i = l.contains i) (hl : ∀ x ∈ l, x < 17) (m : Int) (hm : 0 ≤ m) : N.testBit m.toNat = l.any (fun x => m == (x : Int)) := by
  by_cases hlt : m.toNat < 17
  · rw [h _ hlt, Bool.eq_iff_iff, List.contains_iff_mem, List.any_eq_true]
    constructor
    · intro hx; exact ⟨_, hx, by simp; omega⟩
    · rintro ⟨x, hx, e⟩
      have : m = (x : Int) := by simpa using e
      rw [show m.toNat = x by omega]; exact hx
  · rw [Nat.testBit_lt_two_pow (Nat.lt_of_lt_of_le hN (Nat.pow_le_pow_right (by omega) (by omega))), eq_comm, List.any_eq_false]
    intro x hx e
    have := hl x hx
    have : m = (x : Int) := by simpa using e
    omega
theorem mode_may (k m : Int) (q : Bool) : modeB k m q = (decide (1 ≤ k) && decide (k ≤ 3) && mayB k m q) := by
  unfold modeB mayB
  by_cases hm : 0 ≤ m
  · rw [decide_eq_true hm, Bool.true_and]
    by_cases h1 : k = 1
    · subst h1
      cases q
      · rw [show formN 1 false = 38 from rfl, bits_in 38 (by decide) [1, 2, 5] (by decide) (by decide) m hm]; simp [Bool.or_assoc]
      · rw [show formN 1 true = 71680 from rfl, bits_in 71680 (by decide) [11, 12, 16] (by decide) (by decide) m hm]; simp [Bool.or_assoc]
    · by_cases h2 : k = 2
      · subst h2
        cases q
        · rw [show formN 2 false = 42 from rfl, bits_in 42 (by decide) [1, 3, 5] (by decide) (by decide) m hm]; simp [Bool.or_assoc]
        · rw [show formN 2 true = 10240 from rfl, bits_in 10240 (by decide) [11, 13] (by decide) (by decide) m hm]; simp [Bool.or_assoc]
      · by_cases h3 : k = 3
        · subst h3
          cases q
          · rw [show formN 3 false = 60 from rfl, bits_in 60 (by decide) [2, 3, 4, 5] (by decide) (by decide) m hm]; simp [Bool.or_assoc]
          · rw [show formN 3 true = 49152 from rfl, bits_in 49152 (by decide) [14, 15] (by decide) (by decide) m hm]; simp [Bool.or_assoc]
        · have : (decide (1 ≤ k) && decide (k ≤ 3)) = false := by
            rw [Bool.and_eq_false_iff, decide_eq_false_iff_not, decide_eq_false_iff_not]; omega
          rw [this, Bool.false_and]
          have e1 : ((k : Int) == 1) = false := by rw [beq_eq_false_iff_ne]; exact h1
          have e2 : ((k : Int) == 2) = false := by rw [beq_eq_false_iff_ne]; exact h2
          have e3 : ((k : Int) == 3) = false := by rw [beq_eq_false_iff_ne]; exact h3
          rw [e1, e2, e3]; cases q <;> rfl
  · rw [decide_eq_false hm, Bool.false_and, Bool.and_false]
    have ne : ∀ c : Int, 0 ≤ c → ((m : Int) == c) = false := fun c hc => by rw [beq_eq_false_iff_ne]; omega
    rw [ne 11 (by decide), ne 12 (by decide), ne 16 (by decide), ne 13 (by decide), ne 14 (by decide), ne 15 (by decide), ne 1 (by decide), ne 2 (by decide), ne 5 (by decide), ne 3 (by decide), ne 4 (by decide)]
    cases q <;> simp
theorem ok_event (cells : Int) (e : Ev) (q : Bool) : okEv cells e q = (decide (0 ≤ e.t) && decide (e.t ≤ 63) && modeB e.k e.m q && (if e.k = 3 then decide (e.l = -1) && decide (e.v = 0) else decide (0 ≤ e.l) && decide (e.l < cells))) := by
  rw [mode_may]
  unfold okEv
  have : decide (e.t < 64) = decide (e.t ≤ 63) := by rw [decide_eq_decide]; omega
  rw [this]
  cases decide (0 ≤ e.t) <;> cases decide (e.t ≤ 63) <;> cases decide (1 ≤ e.k) <;> cases decide (e.k ≤ 3) <;> cases mayB e.k e.m q <;> simp
set_option linter.unusedSimpArgs false in
set_option maxRecDepth 100000 in
set_option maxHeartbeats 8000000 in
theorem r8mode_calls (k m : Int) (q : Bool) (w : World) : Calls Tryz.prog 92 #[.int .i64 k, .int .i64 m, .bool q] w fun r w' => r = .returned (.bool (modeB k m q)) ∧ w' = w := by
  generalize hr : modeB k m q = r
  unfold modeB at hr
  have HR := hid_of hr
  clear hr
  go_enter Tryz.func92, Tryz.ntmps92
  cases q
  · by_cases k1 : k = 1
    · subst k1
      by_cases m1 : m = 1
      · subst m1
        obtain rfl : r = true := by rw [← HR.out]; simp
        go_wp2_with fail
        go_ret
        exact ⟨rfl, rfl⟩
      · have f1 : ((m : Int) == 1) = false := by rw [beq_eq_false_iff_ne]; exact m1
        by_cases m2 : m = 2
        · subst m2
          obtain rfl : r = true := by rw [← HR.out]; simp
          go_wp2_with fail
          go_ret
          exact ⟨rfl, rfl⟩
        · have f2 : ((m : Int) == 2) = false := by rw [beq_eq_false_iff_ne]; exact m2
          by_cases m5 : m = 5
          · subst m5
            obtain rfl : r = true := by rw [← HR.out]; simp
            go_wp2_with fail
            go_ret
            exact ⟨rfl, rfl⟩
          · have f5 : ((m : Int) == 5) = false := by rw [beq_eq_false_iff_ne]; exact m5
            obtain rfl : r = false := by rw [← HR.out]; simp [m1, m2, m5]
            go_wp2_with fail
            go_ret
            exact ⟨rfl, rfl⟩
    · have g1 : ((k : Int) == 1) = false := by rw [beq_eq_false_iff_ne]; exact k1
      by_cases k2 : k = 2
      · subst k2
        by_cases m1 : m = 1
        · subst m1
          obtain rfl : r = true := by rw [← HR.out]; simp
          go_wp2_with fail
          go_ret
          exact ⟨rfl, rfl⟩
        · have f1 : ((m : Int) == 1) = false := by rw [beq_eq_false_iff_ne]; exact m1
          by_cases m3 : m = 3
          · subst m3
            obtain rfl : r = true := by rw [← HR.out]; simp
            go_wp2_with fail
            go_ret
            exact ⟨rfl, rfl⟩
          · have f3 : ((m : Int) == 3) = false := by rw [beq_eq_false_iff_ne]; exact m3
            by_cases m5 : m = 5
            · subst m5
              obtain rfl : r = true := by rw [← HR.out]; simp
              go_wp2_with fail
              go_ret
              exact ⟨rfl, rfl⟩
            · have f5 : ((m : Int) == 5) = false := by rw [beq_eq_false_iff_ne]; exact m5
              obtain rfl : r = false := by rw [← HR.out]; simp [m1, m3, m5]
              go_wp2_with fail
              go_ret
              exact ⟨rfl, rfl⟩
      · have g2 : ((k : Int) == 2) = false := by rw [beq_eq_false_iff_ne]; exact k2
        by_cases k3 : k = 3
        · subst k3
          by_cases m2 : m = 2
          · subst m2
            obtain rfl : r = true := by rw [← HR.out]; simp
            go_wp2_with fail
            go_ret
            exact ⟨rfl, rfl⟩
          · have f2 : ((m : Int) == 2) = false := by rw [beq_eq_false_iff_ne]; exact m2
            by_cases m3 : m = 3
            · subst m3
              obtain rfl : r = true := by rw [← HR.out]; simp
              go_wp2_with fail
              go_ret
              exact ⟨rfl, rfl⟩
            · have f3 : ((m : Int) == 3) = false := by rw [beq_eq_false_iff_ne]; exact m3
              by_cases m4 : m = 4
              · subst m4
                obtain rfl : r = true := by rw [← HR.out]; simp
                go_wp2_with fail
                go_ret
                exact ⟨rfl, rfl⟩
              · have f4 : ((m : Int) == 4) = false := by rw [beq_eq_false_iff_ne]; exact m4
                by_cases m5 : m = 5
                · subst m5
                  obtain rfl : r = true := by rw [← HR.out]; simp
                  go_wp2_with fail
                  go_ret
                  exact ⟨rfl, rfl⟩
                · have f5 : ((m : Int) == 5) = false := by rw [beq_eq_false_iff_ne]; exact m5
                  obtain rfl : r = false := by rw [← HR.out]; simp [m2, m3, m4, m5]
                  go_wp2_with fail
                  go_ret
                  exact ⟨rfl, rfl⟩
        · have g3 : ((k : Int) == 3) = false := by rw [beq_eq_false_iff_ne]; exact k3
          obtain rfl : r = false := by rw [← HR.out]; simp [k1, k2, k3]
          go_wp2_with fail
          go_ret
          exact ⟨rfl, rfl⟩
  · by_cases k1 : k = 1
    · subst k1
      by_cases m11 : m = 11
      · subst m11
        obtain rfl : r = true := by rw [← HR.out]; simp
        go_wp2_with fail
        go_ret
        exact ⟨rfl, rfl⟩
      · have f11 : ((m : Int) == 11) = false := by rw [beq_eq_false_iff_ne]; exact m11
        by_cases m12 : m = 12
        · subst m12
          obtain rfl : r = true := by rw [← HR.out]; simp
          go_wp2_with fail
          go_ret
          exact ⟨rfl, rfl⟩
        · have f12 : ((m : Int) == 12) = false := by rw [beq_eq_false_iff_ne]; exact m12
          by_cases m16 : m = 16
          · subst m16
            obtain rfl : r = true := by rw [← HR.out]; simp
            go_wp2_with fail
            go_ret
            exact ⟨rfl, rfl⟩
          · have f16 : ((m : Int) == 16) = false := by rw [beq_eq_false_iff_ne]; exact m16
            obtain rfl : r = false := by rw [← HR.out]; simp [m11, m12, m16]
            go_wp2_with fail
            go_ret
            exact ⟨rfl, rfl⟩
    · have g1 : ((k : Int) == 1) = false := by rw [beq_eq_false_iff_ne]; exact k1
      by_cases k2 : k = 2
      · subst k2
        by_cases m11 : m = 11
        · subst m11
          obtain rfl : r = true := by rw [← HR.out]; simp
          go_wp2_with fail
          go_ret
          exact ⟨rfl, rfl⟩
        · have f11 : ((m : Int) == 11) = false := by rw [beq_eq_false_iff_ne]; exact m11
          by_cases m13 : m = 13
          · subst m13
            obtain rfl : r = true := by rw [← HR.out]; simp
            go_wp2_with fail
            go_ret
            exact ⟨rfl, rfl⟩
          · have f13 : ((m : Int) == 13) = false := by rw [beq_eq_false_iff_ne]; exact m13
            obtain rfl : r = false := by rw [← HR.out]; simp [m11, m13]
            go_wp2_with fail
            go_ret
            exact ⟨rfl, rfl⟩
      · have g2 : ((k : Int) == 2) = false := by rw [beq_eq_false_iff_ne]; exact k2
        by_cases k3 : k = 3
        · subst k3
          by_cases m14 : m = 14
          · subst m14
            obtain rfl : r = true := by rw [← HR.out]; simp
            go_wp2_with fail
            go_ret
            exact ⟨rfl, rfl⟩
          · have f14 : ((m : Int) == 14) = false := by rw [beq_eq_false_iff_ne]; exact m14
            by_cases m15 : m = 15
            · subst m15
              obtain rfl : r = true := by rw [← HR.out]; simp
              go_wp2_with fail
              go_ret
              exact ⟨rfl, rfl⟩
            · have f15 : ((m : Int) == 15) = false := by rw [beq_eq_false_iff_ne]; exact m15
              obtain rfl : r = false := by rw [← HR.out]; simp [m14, m15]
              go_wp2_with fail
              go_ret
              exact ⟨rfl, rfl⟩
        · have g3 : ((k : Int) == 3) = false := by rw [beq_eq_false_iff_ne]; exact k3
          obtain rfl : r = false := by rw [← HR.out]; simp [k1, k2, k3]
          go_wp2_with fail
          go_ret
          exact ⟨rfl, rfl⟩
set_option linter.unusedSimpArgs false in
set_option maxRecDepth 100000 in
set_option maxHeartbeats 8000000 in
theorem r8is_calls (V : GrV) (g : Gr) (i kind : Int) (w : World) (h : GrR w V g) : Calls Tryz.prog 93 #[V.val g, .int .i64 i, .int .i64 kind] w fun r w' => r = .returned (.bool (isB g.evs i [kind])) ∧ Below w.heap.size w w' := by
  obtain ⟨Ve, Vr, Vc, Vm, Va, Vd, Vt⟩ := V
  obtain ⟨pe, ce, ee, hp, _⟩ := h.ev
  dsimp only at ee
  subst ee
  have HP := hid_of hp
  generalize hr : isB g.evs i [kind] = r
  unfold isB at hr
  have HR := hid_of hr
  have HB : Hid (Below w.heap.size w (w.alloc (.cells #[.int .i64 g.cells, .slice pe g.evs.length ce, Vr, Vc, Vm, Va, Vd, Vt] 26))) := (Below.refl _ _).alloc (Nat.le_refl _) _
  have hb := Blk.new w 26 #[.int .i64 g.cells, .slice pe g.evs.length ce, Vr, Vc, Vm, Va, Vd, Vt]
  have c1 : (w.alloc (.cells #[.int .i64 g.cells, .slice pe g.evs.length ce, Vr, Vc, Vm, Va, Vd, Vt] 26)).cell? ⟨w.heap.size, 1, none⟩ = some (.slice pe g.evs.length ce) := hb.cell rfl
  clear hr hp h hb
  unfold GrV.val
  dsimp only
  go_enter Tryz.func93, Tryz.ntmps93
  by_cases h0 : 0 ≤ i
  · by_cases h1 : i < ((g.evs.length : Nat) : Int)
    · obtain ⟨n, rfl⟩ : ∃ n : Nat, i = (n : Int) := ⟨i.toNat, by omega⟩
      obtain ⟨s, o, rfl, hat⟩ := HP.out (by omega)
      have he := Gr.ev_at (g := g) (i := n) (by omega)
      have x1 := (hat.below HB.out).c1 n _ he
      have HG : Hid (g.evs.getD n Ev.zero = g.ev n) := rfl
      have hrr : r = ((g.ev n).k == kind) := by rw [← HR.out, Int.toNat_natCast, HG.out, decide_eq_true h0, decide_eq_true h1, Bool.eq_iff_iff]; simp
      clear he hat HR
      by_cases hk : (g.ev n).k = kind
      · have hq : (((g.ev n).k : Int) == kind) = true := by rw [beq_iff_eq]; exact hk
        obtain rfl : r = true := by rw [hrr, hq]
        clear hrr hk
        go_wp2_with fail
        go_ret
        exact ⟨rfl, HB.out⟩
      · have hq : (((g.ev n).k : Int) == kind) = false := by rw [beq_eq_false_iff_ne]; exact hk
        obtain rfl : r = false := by rw [hrr, hq]
        clear hrr hk
        go_wp2_with fail
        go_ret
        exact ⟨rfl, HB.out⟩
    · obtain rfl : r = false := by rw [← HR.out, decide_eq_false h1]; simp
      go_wp2_with fail
      go_ret
      exact ⟨rfl, HB.out⟩
  · obtain rfl : r = false := by rw [← HR.out, decide_eq_false h0]; simp
    go_wp2_with fail
    go_ret
    exact ⟨rfl, HB.out⟩
end Go.Proofs.YthiijcappjaagaaGreatDoor
namespace Go.Proofs.YthiijcappjaagaaGreatDoor
open Go.RowKit Go.Shelf Sx
set_option linter.unusedSimpArgs false in
set_option maxRecDepth 100000 in
set_option maxHeartbeats 8000000 in
theorem r8event_calls (V : GrV) (g : Gr) (e : Ev) (q : Bool) (w : World) : Calls Tryz.prog 41 #[V.val g, e.val, .bool q] w fun r w' => r = .returned (.bool (okEv g.cells e q)) ∧ Below w.heap.size w w' := by
  generalize hr : okEv g.cells e q = r
  rw [ok_event] at hr
  have HR := hid_of hr
  clear hr
  obtain ⟨et, ek, el, ev, em⟩ := e
  dsimp only at HR
  obtain ⟨Ve, Vr, Vc, Vm, Va, Vd, Vt⟩ := V
  unfold GrV.val Ev.val
  dsimp only
  have HB : Hid (Below w.heap.size w ((w.alloc (.cells #[.int .i64 g.cells, Ve, Vr, Vc, Vm, Va, Vd, Vt] 26)).alloc (.cells #[.int .i64 et, .int .i64 ek, .int .i64 el, .int .u64 ev, .int .i64 em] 63))) := ((Below.refl _ _).alloc (Nat.le_refl _) _).alloc (by simp) _
  have hb1 := (Blk.new w 26 #[.int .i64 g.cells, Ve, Vr, Vc, Vm, Va, Vd, Vt]).alloc (.cells #[.int .i64 et, .int .i64 ek, .int .i64 el, .int .u64 ev, .int .i64 em] 63)
  have hb2 := Blk.new2 w (.cells #[.int .i64 g.cells, Ve, Vr, Vc, Vm, Va, Vd, Vt] 26) 63 #[.int .i64 et, .int .i64 ek, .int .i64 el, .int .u64 ev, .int .i64 em]
  have c0 := hb1.cell (j := 0) (v := .int .i64 g.cells) rfl
  have x0 := hb2.cell (j := 0) (v := .int .i64 et) rfl
  have x1 := hb2.cell (j := 1) (v := .int .i64 ek) rfl
  have x2 := hb2.cell (j := 2) (v := .int .i64 el) rfl
  have x3 := hb2.cell (j := 3) (v := .int .u64 ev) rfl
  have x4 := hb2.cell (j := 4) (v := .int .i64 em) rfl
  have hm := r8mode_calls ek em q ((w.alloc (.cells #[.int .i64 g.cells, Ve, Vr, Vc, Vm, Va, Vd, Vt] 26)).alloc (.cells #[.int .i64 et, .int .i64 ek, .int .i64 el, .int .u64 ev, .int .i64 em] 63))
  generalize hmm : modeB ek em q = b at hm HR
  have HM := hid_of hm
  clear hm hmm hb1 hb2
  go_enter Tryz.func41, Tryz.ntmps41
  by_cases h0 : 0 ≤ et
  · by_cases h1 : et ≤ 63
    · rw [decide_eq_true h0, decide_eq_true h1, Bool.true_and, Bool.true_and] at HR
      cases b
      · obtain rfl : r = false := HR.out.symm
        go_wp2_with (first | (go_at_call 92; refine HM.out.mono ?_; rintro e w1 ⟨rfl, rfl⟩))
        go_ret
        exact ⟨rfl, HB.out⟩
      · rw [Bool.true_and] at HR
        by_cases hk : ek = 3
        · subst hk
          rw [if_pos rfl] at HR
          by_cases hl : el = -1
          · subst hl
            by_cases hv : ev = 0
            · subst hv
              obtain rfl : r = true := HR.out.symm
              go_wp2_with (first | (go_at_call 92; refine HM.out.mono ?_; rintro e w1 ⟨rfl, rfl⟩))
              go_ret
              exact ⟨rfl, HB.out⟩
            · have q1 : ((ev : Int) == 0) = false := by rw [beq_eq_false_iff_ne]; exact hv
              obtain rfl : r = false := by rw [← HR.out, decide_eq_false hv]; rfl
              go_wp2_with (first | (go_at_call 92; refine HM.out.mono ?_; rintro e w1 ⟨rfl, rfl⟩))
              go_ret
              exact ⟨rfl, HB.out⟩
          · have q1 : ((el : Int) == -1) = false := by rw [beq_eq_false_iff_ne]; exact hl
            obtain rfl : r = false := by rw [← HR.out, decide_eq_false hl]; rfl
            go_wp2_with (first | (go_at_call 92; refine HM.out.mono ?_; rintro e w1 ⟨rfl, rfl⟩))
            go_ret
            exact ⟨rfl, HB.out⟩
        · have q1 : ((ek : Int) == 3) = false := by rw [beq_eq_false_iff_ne]; exact hk
          rw [if_neg hk] at HR
          by_cases hl : 0 ≤ el
          · by_cases hc : el < g.cells
            · obtain rfl : r = true := by rw [← HR.out, decide_eq_true hl, decide_eq_true hc]; rfl
              go_wp2_with (first | (go_at_call 92; refine HM.out.mono ?_; rintro e w1 ⟨rfl, rfl⟩))
              go_ret
              exact ⟨by simp [hc], HB.out⟩
            · obtain rfl : r = false := by rw [← HR.out, decide_eq_false hc, Bool.and_false]
              go_wp2_with (first | (go_at_call 92; refine HM.out.mono ?_; rintro e w1 ⟨rfl, rfl⟩))
              go_ret
              exact ⟨by simp [hc], HB.out⟩
          · obtain rfl : r = false := by rw [← HR.out, decide_eq_false hl]; rfl
            go_wp2_with (first | (go_at_call 92; refine HM.out.mono ?_; rintro e w1 ⟨rfl, rfl⟩))
            go_ret
            exact ⟨rfl, HB.out⟩
    · obtain rfl : r = false := by rw [← HR.out, decide_eq_false h1]; simp
      go_wp2_with fail
      go_ret
      exact ⟨rfl, HB.out⟩
  · obtain rfl : r = false := by rw [← HR.out, decide_eq_false h0]; simp
    go_wp2_with fail
    go_ret
    exact ⟨rfl, HB.out⟩
def befB (evs : List Ev) (a b : Int) : Bool := decide (0 ≤ a) && (decide (a < b) && (decide (b < evs.length) && (decide (0 ≤ (evs.getD a.toNat Ev.zero).t) && decide ((evs.getD a.toNat Ev.zero).t = (evs.getD b.toNat Ev.zero).t))))
set_option linter.unusedSimpArgs false in
set_option maxRecDepth 100000 in
set_option maxHeartbeats 8000000 in
theorem r8before_calls (V : GrV) (g : Gr) (a b : Int) (w : World) (h : GrR w V g) : Calls Tryz.prog 95 #[V.val g, .int .i64 a, .int .i64 b] w fun r w' => r = .returned (.bool (befB g.evs a b)) ∧ Below w.heap.size w w' := by
  obtain ⟨Ve, Vr, Vc, Vm, Va, Vd, Vt⟩ := V
  obtain ⟨pe, ce, ee, hp, _⟩ := h.ev
  dsimp only at ee
  subst ee
  have HP := hid_of hp
  generalize hr : befB g.evs a b = r
  unfold befB at hr
  have HR := hid_of hr
  have HB : Hid (Below w.heap.size w (w.alloc (.cells #[.int .i64 g.cells, .slice pe g.evs.length ce, Vr, Vc, Vm, Va, Vd, Vt] 26))) := (Below.refl _ _).alloc (Nat.le_refl _) _
  have hb := Blk.new w 26 #[.int .i64 g.cells, .slice pe g.evs.length ce, Vr, Vc, Vm, Va, Vd, Vt]
  have c1 : (w.alloc (.cells #[.int .i64 g.cells, .slice pe g.evs.length ce, Vr, Vc, Vm, Va, Vd, Vt] 26)).cell? ⟨w.heap.size, 1, none⟩ = some (.slice pe g.evs.length ce) := hb.cell rfl
  clear hr hp h hb
  unfold GrV.val
  dsimp only
  go_enter Tryz.func95, Tryz.ntmps95
  go_upto_region 1 with fail
  by_cases h0 : 0 ≤ a
  · have d0 : decide (0 ≤ a) = true := decide_eq_true h0
    by_cases h1 : a < b
    · have d1 : decide (a < b) = true := decide_eq_true h1
      by_cases h2 : b < ((g.evs.length : Nat) : Int)
      · have d2 : decide (b < ((g.evs.length : Nat) : Int)) = true := decide_eq_true h2
        obtain ⟨n, rfl⟩ : ∃ n : Nat, a = (n : Int) := ⟨a.toNat, by omega⟩
        obtain ⟨m, rfl⟩ : ∃ m : Nat, b = (m : Int) := ⟨b.toNat, by omega⟩
        obtain ⟨s, o, rfl, hat⟩ := HP.out (by omega)
        have x0 := (hat.below HB.out).c0 n _ (Gr.ev_at (g := g) (i := n) (by omega))
        have y0 := (hat.below HB.out).c0 m _ (Gr.ev_at (g := g) (i := m) (by omega))
        have hn1 : ((n : Nat) : Int) < ((g.evs.length : Nat) : Int) := by omega
        have hm0 : (0 : Int) ≤ ((m : Nat) : Int) := by omega
        rw [d0, d1, d2, Bool.true_and, Bool.true_and, Bool.true_and, Int.toNat_natCast, Int.toNat_natCast] at HR
        have HR2 : Hid ((decide (0 ≤ (g.ev n).t) && decide ((g.ev n).t = (g.ev m).t)) = r) := HR.out
        clear hat HR
        generalize (g.ev n).t = ta at *
        generalize (g.ev m).t = tb at *
        by_cases h3 : 0 ≤ ta
        · have d3 : decide (0 ≤ ta) = true := decide_eq_true h3
          by_cases h4 : ta = tb
          · have q4 : ((ta : Int) == tb) = true := by rw [beq_iff_eq]; exact h4
            obtain rfl : r = true := by rw [← HR2.out, d3, decide_eq_true h4]; rfl
            clear h4
            go_quiet (fail)
            all_goals (go_wp2_with fail; go_ret; exact ⟨rfl, below_drewN HB.out _⟩)
          · have q4 : ((ta : Int) == tb) = false := by rw [beq_eq_false_iff_ne]; exact h4
            obtain rfl : r = false := by rw [← HR2.out, d3, decide_eq_false h4]; rfl
            clear h4
            go_quiet (fail)
            all_goals (go_wp2_with fail; go_ret; exact ⟨rfl, below_drewN HB.out _⟩)
        · have d3 : decide (0 ≤ ta) = false := decide_eq_false h3
          obtain rfl : r = false := by rw [← HR2.out, d3]; rfl
          go_quiet (fail)
          all_goals (go_wp2_with fail; go_ret; exact ⟨rfl, below_drewN HB.out _⟩)
      · have d2 : decide (b < ((g.evs.length : Nat) : Int)) = false := decide_eq_false h2
        obtain rfl : r = false := by rw [← HR.out, d2]; simp
        go_quiet (fail)
        all_goals (go_wp2_with fail; go_ret; exact ⟨rfl, below_drewN HB.out _⟩)
    · have d1 : decide (a < b) = false := decide_eq_false h1
      obtain rfl : r = false := by rw [← HR.out, d1]; simp
      go_quiet (fail)
      all_goals (go_wp2_with fail; go_ret; exact ⟨rfl, below_drewN HB.out _⟩)
  · have d0 : decide (0 ≤ a) = false := decide_eq_false h0
    obtain rfl : r = false := by rw [← HR.out, d0]; simp
    go_quiet (fail)
    all_goals (go_wp2_with fail; go_ret; exact ⟨rfl, below_drewN HB.out _⟩)
end Go.Proofs.YthiijcappjaagaaGreatDoor
namespace Go.Proofs.YthiijcappjaagaaGreatDoor
open Go.RowKit Go.Shelf Sx
def gapB (evs : List Ev) (a _b k : Nat) : Bool := (List.range k).any (fun j => (evs.getD (a + 1 + j) Ev.zero).t == (evs.getD a Ev.zero).t)
theorem gapB_any {evs : List Ev} {a b : Nat} (hb : b ≤ evs.length) (h : a + 1 ≤ b) : gapB evs a b (b - (a + 1)) = (gapL evs a b).any (fun e => e.t == (evs.getD a Ev.zero).t) := by
  rw [Bool.eq_iff_iff]
  unfold gapB
  rw [List.any_eq_true, List.any_eq_true]
  constructor
  · rintro ⟨j, hj, e⟩
    have hj' := List.mem_range.1 hj
    refine ⟨evs.getD (a + 1 + j) Ev.zero, ?_, e⟩
    refine List.mem_of_getElem? (i := j) ?_
    unfold gapL
    rw [List.getElem?_drop, List.getElem?_take, if_pos (by omega), List.getD_eq_getElem?_getD, List.getElem?_eq_getElem (by omega)]
    rfl
  · rintro ⟨x, hx, e⟩
    obtain ⟨j, hj, hx'⟩ := List.mem_iff_getElem.1 hx
    rw [gapL_length hb] at hj
    refine ⟨j, List.mem_range.2 hj, ?_⟩
    have : (gapL evs a b)[j]? = some x := by rw [List.getElem?_eq_getElem (by rw [gapL_length hb]; exact hj), hx']
    unfold gapL at this
    rw [List.getElem?_drop, List.getElem?_take, if_pos (by omega)] at this
    rw [List.getD_eq_getElem?_getD, this]
    exact e
def nxtB (evs : List Ev) (a b : Int) : Bool := befB evs a b && !((gapL evs a.toNat b.toNat).any (fun e => e.t == (evs.getD a.toNat Ev.zero).t))
theorem befB_nat {evs : List Ev} {a b : Int} (h : befB evs a b = true) : ∃ n m : Nat, a = (n : Int) ∧ b = (m : Int) ∧ n < m ∧ m < evs.length := by
  unfold befB at h
  simp only [Bool.and_eq_true, decide_eq_true_eq] at h
  exact ⟨a.toNat, b.toNat, by omega, by omega, by omega, by omega⟩
set_option linter.unusedSimpArgs false in
set_option maxRecDepth 100000 in
set_option maxHeartbeats 8000000 in
theorem r8next_calls (V : GrV) (g : Gr) (a b : Int) (w : World) (h : GrR w V g) (hl256 : g.evs.length ≤ 256) : Calls Tryz.prog 94 #[V.val g, .int .i64 a, .int .i64 b] w fun r w' => r = .returned (.bool (nxtB g.evs a b)) ∧ Below w.heap.size w w' := by
  obtain ⟨Ve, Vr, Vc, Vm, Va, Vd, Vt⟩ := V
  obtain ⟨pe, ce, ee, hp, _⟩ := h.ev
  dsimp only at ee
  subst ee
  have HP := hid_of hp
  generalize hr : nxtB g.evs a b = r
  have HR := hid_of hr
  have hB : Below w.heap.size w (w.alloc (.cells #[.int .i64 g.cells, .slice pe g.evs.length ce, Vr, Vc, Vm, Va, Vd, Vt] 26)) := (Below.refl _ _).alloc (Nat.le_refl _) _
  have HB := hid_of hB
  have hb := Blk.new w 26 #[.int .i64 g.cells, .slice pe g.evs.length ce, Vr, Vc, Vm, Va, Vd, Vt]
  have HG := hid_of hb
  have hc := r8before_calls _ g a b _ (h.below hB)
  generalize hbf : befB g.evs a b = q at hc
  have HBF := hid_of hbf
  unfold GrV.val at hc ⊢
  dsimp only at hc ⊢
  have HC := hid_of hc
  have x0 := hb.cell (j := 0) rfl
  have x1 := hb.cell (j := 1) rfl
  have x2 := hb.cell (j := 2) rfl
  have x3 := hb.cell (j := 3) rfl
  have x4 := hb.cell (j := 4) rfl
  have x5 := hb.cell (j := 5) rfl
  have x6 := hb.cell (j := 6) rfl
  have x7 := hb.cell (j := 7) rfl
  clear hr hp h hb hB hc hbf
  go_enter Tryz.func94, Tryz.ntmps94
  cases q
  · obtain rfl : r = false := by rw [← HR.out, nxtB, HBF.out]; rfl
    go_wp2_with (first | (go_at_call 95; refine HC.out.mono ?_; rintro e w1 ⟨rfl, hB1⟩))
    go_ret
    exact ⟨rfl, below_step HB.out HB.out.size hB1⟩
  · obtain ⟨n, m, rfl, rfl, hnm, hml⟩ := befB_nat HBF.out
    obtain ⟨s, o, rfl, hat⟩ := HP.out (by omega)
    have HAT := hid_of hat
    have HRR : Hid (r = !(gapB g.evs n m (m - (n + 1)))) := by rw [Hid, ← HR.out, nxtB, HBF.out, Int.toNat_natCast, Int.toNat_natCast, gapB_any (by omega) (by omega), Bool.true_and]
    clear hat HR
    go_wp2_with (first | (go_at_call 95; refine HC.out.mono ?_; rintro e w1 ⟨rfl, hB1⟩))
    have HB1 : Hid (Below w.heap.size w w1) := below_step HB.out HB.out.size hB1
    have HG1 := hid_of (HG.out.of_below hB1)
    clear x0 x1 x2 x3 x4 x5 x6 x7 hB1 HC
    go_loopg [7] (m - (n + 1)) (fun f i wr => ∃ k : Nat, i = .int .i64 ((k : Nat) : Int) ∧ n + 1 ≤ k ∧ k ≤ m ∧ Hid (k + f = m) ∧ Hid (gapB g.evs n m (k - (n + 1)) = false) ∧ Hid (Below w1.heap.size w1 wr))
    case atStart => exact ⟨n + 1, by go_num, Nat.le_refl _, by omega, by rw [Hid]; omega, by rw [Hid, Nat.sub_self]; rfl, Below.refl _ _⟩
    case round =>
      obtain ⟨k, rfl, hk0, hk, HKF, HNG, HW1⟩ := hrel
      have HB2 : Hid (Below w.heap.size w wr) := below_step HB1.out HB1.out.size HW1.out
      by_cases hlt : k < m
      · have z0 : wr.cell? ⟨s, o + k * 5, none⟩ = some (.int .i64 (g.ev k).t) := (HAT.out.below HB2.out).c0 k _ (Gr.ev_at (g := g) (i := k) (by omega))
        have y0 : wr.cell? ⟨s, o + n * 5, none⟩ = some (.int .i64 (g.ev n).t) := (HAT.out.below HB2.out).c0 n _ (Gr.ev_at (g := g) (i := n) (by omega))
        have c1 : wr.cell? ⟨w.heap.size, 1, none⟩ = some (.slice (some ⟨s, o, none⟩) g.evs.length ce) := (HG1.out.of_below HW1.out).cell rfl
        have K0 : (0 : Int) ≤ ((k : Nat) : Int) := by omega
        have K1 : ((k : Nat) : Int) < ((g.evs.length : Nat) : Int) := by omega
        have N0 : (0 : Int) ≤ ((n : Nat) : Int) := by omega
        have N1 : ((n : Nat) : Int) < ((g.evs.length : Nat) : Int) := by omega
        have hsuc : gapB g.evs n m (k + 1 - (n + 1)) = (gapB g.evs n m (k - (n + 1)) || ((g.ev k).t == (g.ev n).t)) := by
          rw [show k + 1 - (n + 1) = (k - (n + 1)) + 1 by omega]
          unfold gapB
          rw [List.range_succ, List.any_append]
          simp only [List.any_cons, List.any_nil, Bool.or_false]
          rw [show n + 1 + (k - (n + 1)) = k by omega]
          rfl
        rw [HNG.out, Bool.false_or] at hsuc
        have HS := hid_of hsuc
        have HMON : Hid (gapB g.evs n m (k + 1 - (n + 1)) = true → gapB g.evs n m (m - (n + 1)) = true) := fun h => by
          unfold gapB at h ⊢
          rw [List.any_eq_true] at h ⊢
          obtain ⟨j, hj, e⟩ := h
          exact ⟨j, List.mem_range.2 (by have := List.mem_range.1 hj; omega), e⟩
        clear hsuc
        by_cases he : (g.ev k).t = (g.ev n).t
        · have q1 : (((g.ev k).t : Int) == (g.ev n).t) = true := by rw [beq_iff_eq]; exact he
          obtain rfl : r = false := by rw [HRR.out, HMON.out (by rw [HS.out, q1])]; rfl
          clear he
          go_upto_region 6 with fail
          go_quiet (fail)
          all_goals (go_wp2_with fail; go_ret; exact ⟨rfl, below_drewN HB2.out _⟩)
        · have q1 : (((g.ev k).t : Int) == (g.ev n).t) = false := by rw [beq_eq_false_iff_ne]; exact he
          clear he
          go_upto_region 6 with fail
          go_quiet (fail)
          go_wp2_with fail
          go_roundg (m - (k + 1))
          case measure => have := HKF.out; omega
          case rel => exact ⟨k + 1, by go_num, by omega, by omega, by have := HKF.out; rw [Hid]; omega, by rw [Hid, HS.out, q1], below_drewN HW1.out _⟩
      · obtain rfl : k = m := by omega
        obtain rfl : r = true := by rw [HRR.out, HNG.out]; rfl
        go_wp2_with fail
        go_ret
        exact ⟨rfl, HB2.out⟩
end Go.Proofs.YthiijcappjaagaaGreatDoor
namespace Go.Proofs.YthiijcappjaagaaGreatDoor
open Go.RowKit Go.Shelf Sx
theorem numK_len_lt {P : Ev → Bool} {l : List Ev} : ∀ {n r : Nat}, r < n → P (l.getD r Ev.zero) = true → (numK P l n)[(numK P l r).length]? = some r
  | 0, r, h, _ => by omega
  | n + 1, r, h, hp => by
    have hs : numK P l (n + 1) = numK P l n ++ (if P (l.getD n Ev.zero) then [n] else []) := by
      unfold numK
      rw [List.range_succ, List.filter_append, List.filter_cons, List.filter_nil]
    rw [hs]
    by_cases e : r = n
    · subst e
      rw [if_pos hp, List.getElem?_append_right (Nat.le_refl _), Nat.sub_self]
      rfl
    · have ih := numK_len_lt (P := P) (l := l) (n := n) (r := r) (by omega) hp
      rw [List.getElem?_append_left (List.getElem?_eq_some_iff.1 ih).1]
      exact ih
def rdP : Ev → Bool := fun e => e.k == 1
theorem numK_yes' {l : List Ev} {r : Nat} (h : (l.getD r Ev.zero).k = 1) : (numK rdP l (r + 1)).length = (numK rdP l r).length + 1 := by
  unfold numK
  have : rdP (l.getD r Ev.zero) = true := by unfold rdP; rw [h]; rfl
  rw [List.range_succ, List.filter_append, List.filter_cons, List.filter_nil, if_pos this, List.length_append]
  rfl
theorem numK_no' {l : List Ev} {r : Nat} (h : (l.getD r Ev.zero).k ≠ 1) : numK rdP l (r + 1) = numK rdP l r := by
  unfold numK
  have : rdP (l.getD r Ev.zero) = false := by unfold rdP; rw [beq_eq_false_iff_ne]; exact h
  rw [List.range_succ, List.filter_append, List.filter_cons, List.filter_nil, if_neg (by rw [this]; simp), List.append_nil]
def ok4 (g : Gr) (i : Nat) : Bool := ok4a g i (g.rf.getD i (0, 0)) && ok4b g (g.rf.getD i (0, 0))
theorem bad4_hit {g : Gr} {k : Nat} (hk : k < g.rf.length) (h : ∀ j, j < k → ok4 g j = true) (hn : ok4 g k = false) : bad4 g = (k : Int) := by
  have : fstBad (fun i => !(ok4a g i (g.rf.getD i (0, 0)) && ok4b g (g.rf.getD i (0, 0)))) 0 g.rf.length = (k : Int) := fstBad_hit (Nat.zero_le _) (by omega) (fun j _ hj => by have := h j hj; unfold ok4 at this; rw [this]; rfl) (by unfold ok4 at hn; rw [hn]; rfl)
  unfold bad4
  rw [this, if_neg (by omega)]
theorem bad4_all {g : Gr} (h : ∀ j, j < g.rf.length → ok4 g j = true) : bad4 g = (if g.rf.length < g.reads.length then (g.rf.length : Int) else -1) := by
  have : fstBad (fun i => !(ok4a g i (g.rf.getD i (0, 0)) && ok4b g (g.rf.getD i (0, 0)))) 0 g.rf.length = -1 := fstBad_none (fun j _ hj => by have := h j (by omega); unfold ok4 at this; rw [this]; rfl)
  unfold bad4
  rw [this, if_pos rfl]
set_option linter.unusedSimpArgs false in
set_option maxRecDepth 100000 in
set_option maxHeartbeats 16000000 in
theorem r8rf_calls (V : GrV) (g : Gr) (w : World) (h : GrR w V g) (hl256 : g.evs.length ≤ 256) : Calls Tryz.prog 42 #[V.val g] w fun r w' => r = .returned (.int .i64 (bad4 g)) ∧ Below w.heap.size w w' := by
  obtain ⟨Ve, Vr, Vc, Vm, Va, Vd, Vt⟩ := V
  obtain ⟨pe, ce, ee, hp, _⟩ := h.ev
  obtain ⟨pr, cr, er, hpr, hrl⟩ := parg_form h.rf
  dsimp only at ee er
  subst ee
  subst er
  have HP := hid_of hp
  have HPR := hid_of hpr
  have H := hid_of h
  generalize hr : bad4 g = res
  have HR := hid_of hr
  have hB : Below w.heap.size w (w.alloc (.cells #[.int .i64 g.cells, .slice pe g.evs.length ce, .slice pr g.rf.length cr, Vc, Vm, Va, Vd, Vt] 26)) := (Below.refl _ _).alloc (Nat.le_refl _) _
  have hb := Blk.new w 26 #[.int .i64 g.cells, .slice pe g.evs.length ce, .slice pr g.rf.length cr, Vc, Vm, Va, Vd, Vt]
  have hrl' : Hid (g.reads = numK rdP g.evs g.evs.length) := rfl
  unfold GrV.val
  dsimp only
  clear hr hp h hpr
  go_enter Tryz.func42, Tryz.ntmps42
  go_wp2_with fail
  have HB := hid_of hB
  have HG := hid_of hb
  generalize w.alloc (.cells #[.int .i64 g.cells, .slice pe g.evs.length ce, .slice pr g.rf.length cr, Vc, Vm, Va, Vd, Vt] 26) = W0 at *
  have hgb0 : Hid (w.heap.size ≤ w.heap.size) := Nat.le_refl _
  clear hb hB
  go_loopg [3, 4] g.evs.length (fun f v3 v4 wr => ∃ rr kk : Nat, v4 = .int .i64 ((rr : Nat) : Int) ∧ v3 = .int .i64 ((kk : Nat) : Int) ∧ rr ≤ g.evs.length ∧ kk ≤ g.rf.length ∧ Hid (rr + f = g.evs.length) ∧ Hid (kk = (numK rdP g.evs rr).length) ∧ Hid (∀ j, j < kk → ok4 g j = true) ∧ Hid (Below W0.heap.size W0 wr))
  case atStart => exact ⟨0, 0, rfl, rfl, Nat.zero_le _, Nat.zero_le _, Nat.zero_add _, rfl, (fun j h => by omega), Below.refl _ _⟩
  case round =>
    obtain ⟨rr, kk, rfl, rfl, hr0, hk0, HKF, HKK, HALL, HW⟩ := hrel
    have HBW : Hid (Below w.heap.size w wr) := below_step HB.out HB.out.size HW.out
    have hG := HG.out.of_below HW.out
    have c1 : wr.cell? ⟨w.heap.size, 1, none⟩ = some (.slice pe g.evs.length ce) := hG.cell rfl
    have c2 : wr.cell? ⟨w.heap.size, 2, none⟩ = some (.slice pr g.rf.length cr) := hG.cell rfl
    clear hG
    have R0 : (0 : Int) ≤ ((rr : Nat) : Int) := by omega
    by_cases hlt : rr < g.evs.length
    · have R1 : ((rr : Nat) : Int) < ((g.evs.length : Nat) : Int) := by omega
      obtain ⟨s, o, rfl, hat⟩ := HP.out (by omega)
      have HAT := hid_of (hat.below HBW.out)
      have x1 := HAT.out.c1 rr _ (Gr.ev_at hlt)
      clear hat
      by_cases hk : (g.ev rr).k = 1
      · have q1 : (((g.ev rr).k : Int) != 1) = false := by simp [hk]
        have hrd : (numK rdP g.evs g.evs.length)[kk]? = some rr := by rw [HKK.out]; exact numK_len_lt hlt (by show ((g.ev rr).k == 1) = true; rw [hk]; rfl)
        have HRD : Hid (kk < g.reads.length ∧ g.reads.getD kk 0 = rr) := by
          rw [Hid, hrl'.out]
          exact ⟨(List.getElem?_eq_some_iff.1 hrd).1, by rw [List.getD_eq_getElem?_getD, hrd]; rfl⟩
        have HSUC : Hid (kk + 1 = (numK rdP g.evs (rr + 1)).length) := by rw [Hid, numK_yes' hk, HKK.out]
        clear hrd hk
        by_cases hkl : kk < g.rf.length
        · have d1 : ¬ (((g.rf.length : Nat) : Int) ≤ ((kk : Nat) : Int)) := by omega
          obtain ⟨s2, o2, rfl, hat2⟩ := HPR.out (by omega)
          obtain ⟨⟨pa, pb⟩, hx⟩ : ∃ x, g.rf[kk]? = some x := ⟨_, List.getElem?_eq_getElem hkl⟩
          have y0 := (hat2.below HBW.out).fst kk _ hx
          have y1 := (hat2.below HBW.out).snd kk _ hx
          dsimp only at y0 y1
          have K0 : (0 : Int) ≤ ((kk : Nat) : Int) := by omega
          have K1 : ((kk : Nat) : Int) < ((g.rf.length : Nat) : Int) := by omega
          have hgd : g.rf.getD kk (0, 0) = (pa, pb) := by rw [List.getD_eq_getElem?_getD, hx]; rfl
          have HBAD : Hid (ok4 g kk = false → res = ((kk : Nat) : Int)) := fun h => by rw [← HR.out]; exact bad4_hit hkl HALL.out h
          have HNX : Hid (ok4 g kk = true → ∀ j, j < kk + 1 → ok4 g j = true) := fun h j hj => by
            by_cases e : j = kk
            · rw [e]; exact h
            · exact HALL.out j (by omega)
          have HO4 : Hid (ok4 g kk = (decide (pb = ((rr : Nat) : Int)) && isB g.evs pa [2] && (decide ((g.ev pa.toNat).l = (g.ev pb.toNat).l) && decide ((g.ev pa.toNat).v = (g.ev pb.toNat).v)))) := by
            rw [Hid]
            unfold ok4 ok4a ok4b
            rw [hgd, HRD.out.2, decide_eq_true HRD.out.1, Bool.true_and]
          clear hx hgd hat2 HRD
          go_upto_region 9 with fail
          have hgp := Blk.new wr 77 #[.int .i64 pa, .int .i64 pb]
          have hBp : Below wr.heap.size wr (wr.alloc (.cells #[.int .i64 pa, .int .i64 pb] 77)) := (Below.refl _ _).alloc (Nat.le_refl _) _
          have HGb := hid_of ((HG.out.of_below HW.out).alloc (.cells #[.int .i64 pa, .int .i64 pb] 77))
          have HAb := hid_of (HAT.out.below hBp)
          have HBb : Hid (Below w.heap.size w (wr.alloc (.cells #[.int .i64 pa, .int .i64 pb] 77))) := below_step HBW.out HBW.out.size hBp
          have HWb : Hid (Below W0.heap.size W0 (wr.alloc (.cells #[.int .i64 pa, .int .i64 pb] 77))) := below_step HW.out HW.out.size hBp
          have HGP := hid_of hgp
          clear hgp hBp y0 y1 x1 c1 c2
          generalize wr.alloc (.cells #[.int .i64 pa, .int .i64 pb] 77) = wb at *
          generalize wr.heap.size = gp at *
          have HC0 := hid_of (r8is_calls _ g pa 2 wb.drew (H.out.below HBb.out.drew))
          unfold GrV.val at HC0
          dsimp only at HC0
          generalize hgbn : w.heap.size = gb at *
          have HZ : Hid (∀ W, Below wb.heap.size wb W → W.cell? ⟨gb, 0, none⟩ = some (.int .i64 g.cells) ∧ W.cell? ⟨gb, 1, none⟩ = some (.slice (some ⟨s, o, none⟩) g.evs.length ce) ∧ W.cell? ⟨gb, 2, none⟩ = some (.slice (some ⟨s2, o2, none⟩) g.rf.length cr) ∧ W.cell? ⟨gb, 3, none⟩ = some (Vc) ∧ W.cell? ⟨gb, 4, none⟩ = some (Vm) ∧ W.cell? ⟨gb, 5, none⟩ = some (Va) ∧ W.cell? ⟨gb, 6, none⟩ = some (Vd) ∧ W.cell? ⟨gb, 7, none⟩ = some (Vt) ∧ W.cell? ⟨gp, 0, none⟩ = some (.int .i64 pa) ∧ W.cell? ⟨gp, 1, none⟩ = some (.int .i64 pb)) := fun W hW => ⟨(HGb.out.of_below hW).cell rfl, (HGb.out.of_below hW).cell rfl, (HGb.out.of_below hW).cell rfl, (HGb.out.of_below hW).cell rfl, (HGb.out.of_below hW).cell rfl, (HGb.out.of_below hW).cell rfl, (HGb.out.of_below hW).cell rfl, (HGb.out.of_below hW).cell rfl, (HGP.out.of_below hW).cell rfl, (HGP.out.of_below hW).cell rfl⟩
          go_cut [73] (fun v73 wx => v73 = .bool (!(ok4 g kk)) ∧ Hid (Below wb.heap.size wb wx))
          case rest =>
            obtain ⟨rfl, HX⟩ := hcut
            generalize hwz : wc = wz at *
            clear hwz
            have HXW : Hid (Below gb w wz) := HBb.out.trans (HX.out.mono (by rw [← hgbn]; exact HBb.out.size))
            cases hok : ok4 g kk
            · obtain rfl := HBAD.out hok
              clear hok
              go_wp2_with fail
              go_ret
              exact ⟨rfl, HXW.out⟩
            · have HNX2 := hid_of (HNX.out hok)
              clear hok
              go_wp2_with fail
              go_roundg (g.evs.length - (rr + 1))
              case measure => have := HKF.out; omega
              case rel => exact ⟨rr + 1, kk + 1, by go_num, by go_num, by omega, by omega, by have := HKF.out; rw [Hid]; omega, HSUC.out, HNX2.out, HWb.out.trans (HX.out.mono HWb.out.size)⟩
          case first =>
          by_cases hpb : pb = ((rr : Nat) : Int)
          · have q2 : ((pb : Int) != ((rr : Nat) : Int)) = false := by simp [hpb]
            cases his : isB g.evs pa [2]
            · rw [his] at HC0
              have HC := HC0
              have HO : Hid (ok4 g kk = false) := by rw [Hid, HO4.out, his]; simp
              clear HC0 his hpb
              refine wp_region_held_drew (S := (fun w' => w'.cell? ⟨gb, 0, none⟩ = some (.int .i64 g.cells) ∧ w'.cell? ⟨gb, 1, none⟩ = some (.slice (some ⟨s, o, none⟩) g.evs.length ce) ∧ w'.cell? ⟨gb, 2, none⟩ = some (.slice (some ⟨s2, o2, none⟩) g.rf.length cr) ∧ w'.cell? ⟨gb, 3, none⟩ = some (Vc) ∧ w'.cell? ⟨gb, 4, none⟩ = some (Vm) ∧ w'.cell? ⟨gb, 5, none⟩ = some (Va) ∧ w'.cell? ⟨gb, 6, none⟩ = some (Vd) ∧ w'.cell? ⟨gb, 7, none⟩ = some (Vt) ∧ w'.cell? ⟨gp, 0, none⟩ = some (.int .i64 pa) ∧ w'.cell? ⟨gp, 1, none⟩ = some (.int .i64 pb))) (by kernel_rfl) (HZ.out _ (Below.refl _ _).drew) (fun hHeld => ?_)
              refine tk 0 rfl ?_; simp only [zz]
              refine tk 1 rfl ?_; simp only [zz]
              refine tk 2 rfl ?_; simp only [zz]
              refine tk 3 rfl ?_; simp only [zz]
              refine tk 4 rfl ?_; simp only [zz]
              refine tk 5 rfl ?_; simp only [zz]
              refine tk 6 rfl ?_; simp only [zz]
              refine tk 7 rfl ?_; simp only [zz]
              refine wpAnyH_ready (rs := [8]) (by kernel_rfl) (by simp) ?_
              refine AllReadyH.cons rfl (fun K hK => ?_) AllReadyH.nil
              simp only [z1, z2, z3]
              go_simp
              refine HC.out.mono ?_
              rintro e w5 ⟨rfl, hB5⟩
              have hX5 : Below wb.heap.size wb w5 := ((Below.refl wb.heap.size wb).drew).trans hB5
              refine hK.out _ _ (HZ.out w5 hX5) (fun hHeld => ?_)
              clear hK K
              try simp only [zz]
              refine tk 9 rfl ?_; simp only [zz]
              refine tk 10 rfl ?_; simp only [zz]
              refine tk 11 rfl ?_; simp only [zz]
              refine tu 12 rfl ?_; simp only [zz]
              refine tu 13 rfl ?_; simp only [zz]
              refine tu 14 rfl ?_; simp only [zz]
              refine tu 15 rfl ?_; simp only [zz]
              refine tu 16 rfl ?_; simp only [zz]
              refine tu 17 rfl ?_; simp only [zz]
              refine tu 18 rfl ?_; simp only [zz]
              refine tu 19 rfl ?_; simp only [zz]
              refine tu 20 rfl ?_; simp only [zz]
              refine tu 21 rfl ?_; simp only [zz]
              refine tu 22 rfl ?_; simp only [zz]
              refine tu 23 rfl ?_; simp only [zz]
              refine tu 24 rfl ?_; simp only [zz]
              refine tu 25 rfl ?_; simp only [zz]
              refine tk 26 rfl ?_; simp only [zz]
              refine tk 27 rfl ?_; simp only [zz]
              refine tu 28 rfl ?_; simp only [zz]
              refine tu 29 rfl ?_; simp only [zz]
              refine tu 30 rfl ?_; simp only [zz]
              refine tu 31 rfl ?_; simp only [zz]
              refine tu 32 rfl ?_; simp only [zz]
              refine tu 33 rfl ?_; simp only [zz]
              refine tu 34 rfl ?_; simp only [zz]
              refine tu 35 rfl ?_; simp only [zz]
              refine tu 36 rfl ?_; simp only [zz]
              refine tu 37 rfl ?_; simp only [zz]
              refine tu 38 rfl ?_; simp only [zz]
              refine tu 39 rfl ?_; simp only [zz]
              refine tu 40 rfl ?_; simp only [zz]
              refine tu 41 rfl ?_; simp only [zz]
              refine tk 42 rfl ?_; simp only [zz]
              refine wpAnyH_done (by kernel_rfl) ?_ _
              go_wp2_with fail
              go_meet
              exact ⟨by rw [HO.out]; rfl, hX5⟩
            · rw [his] at HC0
              have HC := HC0
              obtain ⟨n, rfl, hn⟩ := isB_nat his
              have N0 : (0 : Int) ≤ ((n : Nat) : Int) := by omega
              have N1 : ((n : Nat) : Int) < ((g.evs.length : Nat) : Int) := by omega
              have z0 := HAb.out.c2 n _ (Gr.ev_at hn)
              have z1 := HAb.out.c3 n _ (Gr.ev_at hn)
              have z2 := HAb.out.c2 rr _ (Gr.ev_at hlt)
              have z3 := HAb.out.c3 rr _ (Gr.ev_at hlt)
              have hs := HAb.out.lt
              have HO5 : Hid (ok4 g kk = (decide ((g.ev n).l = (g.ev rr).l) && decide ((g.ev n).v = (g.ev rr).v))) := by rw [Hid, HO4.out, his, hpb, Int.toNat_natCast, Int.toNat_natCast]; simp
              generalize (g.ev n).l = la at *
              generalize (g.ev n).v = va at *
              generalize (g.ev rr).l = lb at *
              generalize (g.ev rr).v = vb at *
              have HZ2 : Hid (∀ W, Below wb.heap.size wb W → W.cell? ⟨gb, 0, none⟩ = some (.int .i64 g.cells) ∧ W.cell? ⟨gb, 1, none⟩ = some (.slice (some ⟨s, o, none⟩) g.evs.length ce) ∧ W.cell? ⟨gb, 2, none⟩ = some (.slice (some ⟨s2, o2, none⟩) g.rf.length cr) ∧ W.cell? ⟨gb, 3, none⟩ = some (Vc) ∧ W.cell? ⟨gb, 4, none⟩ = some (Vm) ∧ W.cell? ⟨gb, 5, none⟩ = some (Va) ∧ W.cell? ⟨gb, 6, none⟩ = some (Vd) ∧ W.cell? ⟨gb, 7, none⟩ = some (Vt) ∧ W.cell? ⟨gp, 0, none⟩ = some (.int .i64 ((n : Nat) : Int)) ∧ W.cell? ⟨gp, 1, none⟩ = some (.int .i64 pb) ∧ W.cell? ⟨s, o + n * 5 + 2, none⟩ = some (.int .i64 la) ∧ W.cell? ⟨s, o + n * 5 + 3, none⟩ = some (.int .u64 va) ∧ W.cell? ⟨s, o + rr * 5 + 2, none⟩ = some (.int .i64 lb) ∧ W.cell? ⟨s, o + rr * 5 + 3, none⟩ = some (.int .u64 vb)) := fun W hW => by
                obtain ⟨a0, a1, a2, a3, a4, a5, a6, a7, a8, a9⟩ := HZ.out W hW
                exact ⟨a0, a1, a2, a3, a4, a5, a6, a7, a8, a9, (hW.cell (p := ⟨s, o + n * 5 + 2, none⟩) hs).trans z0, (hW.cell (p := ⟨s, o + n * 5 + 3, none⟩) hs).trans z1, (hW.cell (p := ⟨s, o + rr * 5 + 2, none⟩) hs).trans z2, (hW.cell (p := ⟨s, o + rr * 5 + 3, none⟩) hs).trans z3⟩
              clear HC0 his hpb z0 z1 z2 z3 HO4
              by_cases hll : la = lb
              · have q3 : ((la : Int) != lb) = false := by simp [hll]
                by_cases hvv : va = vb
                · have q4 : ((va : Int) != vb) = false := by simp [hvv]
                  have HO : Hid (ok4 g kk = true) := by rw [Hid, HO5.out, decide_eq_true hll, decide_eq_true hvv]; rfl
                  clear hll hvv
                  refine wp_region_held_drew (S := (fun w' => w'.cell? ⟨gb, 0, none⟩ = some (.int .i64 g.cells) ∧ w'.cell? ⟨gb, 1, none⟩ = some (.slice (some ⟨s, o, none⟩) g.evs.length ce) ∧ w'.cell? ⟨gb, 2, none⟩ = some (.slice (some ⟨s2, o2, none⟩) g.rf.length cr) ∧ w'.cell? ⟨gb, 3, none⟩ = some (Vc) ∧ w'.cell? ⟨gb, 4, none⟩ = some (Vm) ∧ w'.cell? ⟨gb, 5, none⟩ = some (Va) ∧ w'.cell? ⟨gb, 6, none⟩ = some (Vd) ∧ w'.cell? ⟨gb, 7, none⟩ = some (Vt) ∧ w'.cell? ⟨gp, 0, none⟩ = some (.int .i64 ((n : Nat) : Int)) ∧ w'.cell? ⟨gp, 1, none⟩ = some (.int .i64 pb) ∧ w'.cell? ⟨s, o + n * 5 + 2, none⟩ = some (.int .i64 la) ∧ w'.cell? ⟨s, o + n * 5 + 3, none⟩ = some (.int .u64 va) ∧ w'.cell? ⟨s, o + rr * 5 + 2, none⟩ = some (.int .i64 lb) ∧ w'.cell? ⟨s, o + rr * 5 + 3, none⟩ = some (.int .u64 vb))) (by kernel_rfl) (HZ2.out _ (Below.refl _ _).drew) (fun hHeld => ?_)
                  refine tk 0 rfl ?_; simp only [zz]
                  refine tk 1 rfl ?_; simp only [zz]
                  refine tk 2 rfl ?_; simp only [zz]
                  refine tk 3 rfl ?_; simp only [zz]
                  refine tk 4 rfl ?_; simp only [zz]
                  refine tk 5 rfl ?_; simp only [zz]
                  refine tk 6 rfl ?_; simp only [zz]
                  refine tk 7 rfl ?_; simp only [zz]
                  refine wpAnyH_ready (rs := [8]) (by kernel_rfl) (by simp) ?_
                  refine AllReadyH.cons rfl (fun K hK => ?_) AllReadyH.nil
                  simp only [z1, z2, z3]
                  go_simp
                  refine HC.out.mono ?_
                  rintro e w5 ⟨rfl, hB5⟩
                  have hX5 : Below wb.heap.size wb w5 := ((Below.refl wb.heap.size wb).drew).trans hB5
                  refine hK.out _ _ (HZ2.out w5 hX5) (fun hHeld => ?_)
                  clear hK K
                  try simp only [zz]
                  refine tk 9 rfl ?_; simp only [zz]
                  refine tk 10 rfl ?_; simp only [zz]
                  refine tk 11 rfl ?_; simp only [zz]
                  refine tk 12 rfl ?_; simp only [zz]
                  refine tk 13 rfl ?_; simp only [zz]
                  refine tk 14 rfl ?_; simp only [zz]
                  refine tk 15 rfl ?_; simp only [zz]
                  refine tk 16 rfl ?_; simp only [zz]
                  refine tk 17 rfl ?_; simp only [zz]
                  refine tk 18 rfl ?_; simp only [zz]
                  refine tk 19 rfl ?_; simp only [zz]
                  refine tk 20 rfl ?_; simp only [zz]
                  refine tk 21 rfl ?_; simp only [zz]
                  refine tk 22 rfl ?_; simp only [zz]
                  refine tk 23 rfl ?_; simp only [zz]
                  refine tk 24 rfl ?_; simp only [zz]
                  refine tk 25 rfl ?_; simp only [zz]
                  refine tk 26 rfl ?_; simp only [zz]
                  refine tk 27 rfl ?_; simp only [zz]
                  refine tk 28 rfl ?_; simp only [zz]
                  refine tk 29 rfl ?_; simp only [zz]
                  refine tk 30 rfl ?_; simp only [zz]
                  refine tk 31 rfl ?_; simp only [zz]
                  refine tk 32 rfl ?_; simp only [zz]
                  refine tk 33 rfl ?_; simp only [zz]
                  refine tk 34 rfl ?_; simp only [zz]
                  refine tk 35 rfl ?_; simp only [zz]
                  refine tk 36 rfl ?_; simp only [zz]
                  refine tk 37 rfl ?_; simp only [zz]
                  refine tk 38 rfl ?_; simp only [zz]
                  refine tk 39 rfl ?_; simp only [zz]
                  refine tk 40 rfl ?_; simp only [zz]
                  refine tk 41 rfl ?_; simp only [zz]
                  refine tk 42 rfl ?_; simp only [zz]
                  refine wpAnyH_done (by kernel_rfl) ?_ _
                  go_wp2_with fail
                  go_meet
                  exact ⟨by rw [HO.out]; rfl, hX5⟩
                · have q4 : ((va : Int) != vb) = true := by simp [hvv]
                  have HO : Hid (ok4 g kk = false) := by rw [Hid, HO5.out, decide_eq_false hvv]; simp
                  clear hll hvv
                  refine wp_region_held_drew (S := (fun w' => w'.cell? ⟨gb, 0, none⟩ = some (.int .i64 g.cells) ∧ w'.cell? ⟨gb, 1, none⟩ = some (.slice (some ⟨s, o, none⟩) g.evs.length ce) ∧ w'.cell? ⟨gb, 2, none⟩ = some (.slice (some ⟨s2, o2, none⟩) g.rf.length cr) ∧ w'.cell? ⟨gb, 3, none⟩ = some (Vc) ∧ w'.cell? ⟨gb, 4, none⟩ = some (Vm) ∧ w'.cell? ⟨gb, 5, none⟩ = some (Va) ∧ w'.cell? ⟨gb, 6, none⟩ = some (Vd) ∧ w'.cell? ⟨gb, 7, none⟩ = some (Vt) ∧ w'.cell? ⟨gp, 0, none⟩ = some (.int .i64 ((n : Nat) : Int)) ∧ w'.cell? ⟨gp, 1, none⟩ = some (.int .i64 pb) ∧ w'.cell? ⟨s, o + n * 5 + 2, none⟩ = some (.int .i64 la) ∧ w'.cell? ⟨s, o + n * 5 + 3, none⟩ = some (.int .u64 va) ∧ w'.cell? ⟨s, o + rr * 5 + 2, none⟩ = some (.int .i64 lb) ∧ w'.cell? ⟨s, o + rr * 5 + 3, none⟩ = some (.int .u64 vb))) (by kernel_rfl) (HZ2.out _ (Below.refl _ _).drew) (fun hHeld => ?_)
                  refine tk 0 rfl ?_; simp only [zz]
                  refine tk 1 rfl ?_; simp only [zz]
                  refine tk 2 rfl ?_; simp only [zz]
                  refine tk 3 rfl ?_; simp only [zz]
                  refine tk 4 rfl ?_; simp only [zz]
                  refine tk 5 rfl ?_; simp only [zz]
                  refine tk 6 rfl ?_; simp only [zz]
                  refine tk 7 rfl ?_; simp only [zz]
                  refine wpAnyH_ready (rs := [8]) (by kernel_rfl) (by simp) ?_
                  refine AllReadyH.cons rfl (fun K hK => ?_) AllReadyH.nil
                  simp only [z1, z2, z3]
                  go_simp
                  refine HC.out.mono ?_
                  rintro e w5 ⟨rfl, hB5⟩
                  have hX5 : Below wb.heap.size wb w5 := ((Below.refl wb.heap.size wb).drew).trans hB5
                  refine hK.out _ _ (HZ2.out w5 hX5) (fun hHeld => ?_)
                  clear hK K
                  try simp only [zz]
                  refine tk 9 rfl ?_; simp only [zz]
                  refine tk 10 rfl ?_; simp only [zz]
                  refine tk 11 rfl ?_; simp only [zz]
                  refine tk 12 rfl ?_; simp only [zz]
                  refine tk 13 rfl ?_; simp only [zz]
                  refine tk 14 rfl ?_; simp only [zz]
                  refine tk 15 rfl ?_; simp only [zz]
                  refine tk 16 rfl ?_; simp only [zz]
                  refine tk 17 rfl ?_; simp only [zz]
                  refine tk 18 rfl ?_; simp only [zz]
                  refine tk 19 rfl ?_; simp only [zz]
                  refine tk 20 rfl ?_; simp only [zz]
                  refine tk 21 rfl ?_; simp only [zz]
                  refine tk 22 rfl ?_; simp only [zz]
                  refine tk 23 rfl ?_; simp only [zz]
                  refine tk 24 rfl ?_; simp only [zz]
                  refine tk 25 rfl ?_; simp only [zz]
                  refine tk 26 rfl ?_; simp only [zz]
                  refine tk 27 rfl ?_; simp only [zz]
                  refine tk 28 rfl ?_; simp only [zz]
                  refine tk 29 rfl ?_; simp only [zz]
                  refine tk 30 rfl ?_; simp only [zz]
                  refine tk 31 rfl ?_; simp only [zz]
                  refine tk 32 rfl ?_; simp only [zz]
                  refine tk 33 rfl ?_; simp only [zz]
                  refine tk 34 rfl ?_; simp only [zz]
                  refine tk 35 rfl ?_; simp only [zz]
                  refine tk 36 rfl ?_; simp only [zz]
                  refine tk 37 rfl ?_; simp only [zz]
                  refine tk 38 rfl ?_; simp only [zz]
                  refine tk 39 rfl ?_; simp only [zz]
                  refine tk 40 rfl ?_; simp only [zz]
                  refine tk 41 rfl ?_; simp only [zz]
                  refine tk 42 rfl ?_; simp only [zz]
                  refine wpAnyH_done (by kernel_rfl) ?_ _
                  go_wp2_with fail
                  go_meet
                  exact ⟨by rw [HO.out]; rfl, hX5⟩
              · have q3 : ((la : Int) != lb) = true := by simp [hll]
                have HO : Hid (ok4 g kk = false) := by rw [Hid, HO5.out, decide_eq_false hll]; rfl
                clear hll
                refine wp_region_held_drew (S := (fun w' => w'.cell? ⟨gb, 0, none⟩ = some (.int .i64 g.cells) ∧ w'.cell? ⟨gb, 1, none⟩ = some (.slice (some ⟨s, o, none⟩) g.evs.length ce) ∧ w'.cell? ⟨gb, 2, none⟩ = some (.slice (some ⟨s2, o2, none⟩) g.rf.length cr) ∧ w'.cell? ⟨gb, 3, none⟩ = some (Vc) ∧ w'.cell? ⟨gb, 4, none⟩ = some (Vm) ∧ w'.cell? ⟨gb, 5, none⟩ = some (Va) ∧ w'.cell? ⟨gb, 6, none⟩ = some (Vd) ∧ w'.cell? ⟨gb, 7, none⟩ = some (Vt) ∧ w'.cell? ⟨gp, 0, none⟩ = some (.int .i64 ((n : Nat) : Int)) ∧ w'.cell? ⟨gp, 1, none⟩ = some (.int .i64 pb) ∧ w'.cell? ⟨s, o + n * 5 + 2, none⟩ = some (.int .i64 la) ∧ w'.cell? ⟨s, o + n * 5 + 3, none⟩ = some (.int .u64 va) ∧ w'.cell? ⟨s, o + rr * 5 + 2, none⟩ = some (.int .i64 lb) ∧ w'.cell? ⟨s, o + rr * 5 + 3, none⟩ = some (.int .u64 vb))) (by kernel_rfl) (HZ2.out _ (Below.refl _ _).drew) (fun hHeld => ?_)
                refine tk 0 rfl ?_; simp only [zz]
                refine tk 1 rfl ?_; simp only [zz]
                refine tk 2 rfl ?_; simp only [zz]
                refine tk 3 rfl ?_; simp only [zz]
                refine tk 4 rfl ?_; simp only [zz]
                refine tk 5 rfl ?_; simp only [zz]
                refine tk 6 rfl ?_; simp only [zz]
                refine tk 7 rfl ?_; simp only [zz]
                refine wpAnyH_ready (rs := [8]) (by kernel_rfl) (by simp) ?_
                refine AllReadyH.cons rfl (fun K hK => ?_) AllReadyH.nil
                simp only [z1, z2, z3]
                go_simp
                refine HC.out.mono ?_
                rintro e w5 ⟨rfl, hB5⟩
                have hX5 : Below wb.heap.size wb w5 := ((Below.refl wb.heap.size wb).drew).trans hB5
                refine hK.out _ _ (HZ2.out w5 hX5) (fun hHeld => ?_)
                clear hK K
                try simp only [zz]
                refine tk 9 rfl ?_; simp only [zz]
                refine tk 10 rfl ?_; simp only [zz]
                refine tk 11 rfl ?_; simp only [zz]
                refine tk 12 rfl ?_; simp only [zz]
                refine tk 13 rfl ?_; simp only [zz]
                refine tk 14 rfl ?_; simp only [zz]
                refine tk 15 rfl ?_; simp only [zz]
                refine tk 16 rfl ?_; simp only [zz]
                refine tk 17 rfl ?_; simp only [zz]
                refine tk 18 rfl ?_; simp only [zz]
                refine tk 19 rfl ?_; simp only [zz]
                refine tk 20 rfl ?_; simp only [zz]
                refine tk 21 rfl ?_; simp only [zz]
                refine tk 22 rfl ?_; simp only [zz]
                refine tk 23 rfl ?_; simp only [zz]
                refine tk 24 rfl ?_; simp only [zz]
                refine tk 25 rfl ?_; simp only [zz]
                refine tk 26 rfl ?_; simp only [zz]
                refine tk 27 rfl ?_; simp only [zz]
                refine tu 28 rfl ?_; simp only [zz]
                refine tu 29 rfl ?_; simp only [zz]
                refine tu 30 rfl ?_; simp only [zz]
                refine tu 31 rfl ?_; simp only [zz]
                refine tu 32 rfl ?_; simp only [zz]
                refine tu 33 rfl ?_; simp only [zz]
                refine tu 34 rfl ?_; simp only [zz]
                refine tu 35 rfl ?_; simp only [zz]
                refine tu 36 rfl ?_; simp only [zz]
                refine tu 37 rfl ?_; simp only [zz]
                refine tu 38 rfl ?_; simp only [zz]
                refine tu 39 rfl ?_; simp only [zz]
                refine tu 40 rfl ?_; simp only [zz]
                refine tu 41 rfl ?_; simp only [zz]
                refine tk 42 rfl ?_; simp only [zz]
                refine wpAnyH_done (by kernel_rfl) ?_ _
                go_wp2_with fail
                go_meet
                exact ⟨by rw [HO.out]; rfl, hX5⟩
          · have q2 : ((pb : Int) != ((rr : Nat) : Int)) = true := by simp [hpb]
            have HO : Hid (ok4 g kk = false) := by rw [Hid, HO4.out, decide_eq_false hpb]; rfl
            clear hpb HC0
            refine wp_region_held_drew (S := (fun w' => w'.cell? ⟨gb, 0, none⟩ = some (.int .i64 g.cells) ∧ w'.cell? ⟨gb, 1, none⟩ = some (.slice (some ⟨s, o, none⟩) g.evs.length ce) ∧ w'.cell? ⟨gb, 2, none⟩ = some (.slice (some ⟨s2, o2, none⟩) g.rf.length cr) ∧ w'.cell? ⟨gb, 3, none⟩ = some (Vc) ∧ w'.cell? ⟨gb, 4, none⟩ = some (Vm) ∧ w'.cell? ⟨gb, 5, none⟩ = some (Va) ∧ w'.cell? ⟨gb, 6, none⟩ = some (Vd) ∧ w'.cell? ⟨gb, 7, none⟩ = some (Vt) ∧ w'.cell? ⟨gp, 0, none⟩ = some (.int .i64 pa) ∧ w'.cell? ⟨gp, 1, none⟩ = some (.int .i64 pb))) (by kernel_rfl) (HZ.out _ (Below.refl _ _).drew) (fun hHeld => ?_)
            refine tk 0 rfl ?_; simp only [zz]
            refine tk 1 rfl ?_; simp only [zz]
            refine tk 2 rfl ?_; simp only [zz]
            refine tk 3 rfl ?_; simp only [zz]
            refine tk 4 rfl ?_; simp only [zz]
            refine tu 5 rfl ?_; simp only [zz]
            refine tu 6 rfl ?_; simp only [zz]
            refine tu 7 rfl ?_; simp only [zz]
            refine tu 8 rfl ?_; simp only [zz]
            refine tu 9 rfl ?_; simp only [zz]
            refine tk 10 rfl ?_; simp only [zz]
            refine tk 11 rfl ?_; simp only [zz]
            refine tu 12 rfl ?_; simp only [zz]
            refine tu 13 rfl ?_; simp only [zz]
            refine tu 14 rfl ?_; simp only [zz]
            refine tu 15 rfl ?_; simp only [zz]
            refine tu 16 rfl ?_; simp only [zz]
            refine tu 17 rfl ?_; simp only [zz]
            refine tu 18 rfl ?_; simp only [zz]
            refine tu 19 rfl ?_; simp only [zz]
            refine tu 20 rfl ?_; simp only [zz]
            refine tu 21 rfl ?_; simp only [zz]
            refine tu 22 rfl ?_; simp only [zz]
            refine tu 23 rfl ?_; simp only [zz]
            refine tu 24 rfl ?_; simp only [zz]
            refine tu 25 rfl ?_; simp only [zz]
            refine tk 26 rfl ?_; simp only [zz]
            refine tk 27 rfl ?_; simp only [zz]
            refine tu 28 rfl ?_; simp only [zz]
            refine tu 29 rfl ?_; simp only [zz]
            refine tu 30 rfl ?_; simp only [zz]
            refine tu 31 rfl ?_; simp only [zz]
            refine tu 32 rfl ?_; simp only [zz]
            refine tu 33 rfl ?_; simp only [zz]
            refine tu 34 rfl ?_; simp only [zz]
            refine tu 35 rfl ?_; simp only [zz]
            refine tu 36 rfl ?_; simp only [zz]
            refine tu 37 rfl ?_; simp only [zz]
            refine tu 38 rfl ?_; simp only [zz]
            refine tu 39 rfl ?_; simp only [zz]
            refine tu 40 rfl ?_; simp only [zz]
            refine tu 41 rfl ?_; simp only [zz]
            refine tk 42 rfl ?_; simp only [zz]
            refine wpAnyH_done (by kernel_rfl) ?_ _
            go_wp2_with fail
            go_meet
            exact ⟨by rw [HO.out]; rfl, (Below.refl _ _).drew⟩
        · have d1 : (((g.rf.length : Nat) : Int) ≤ ((kk : Nat) : Int)) := by omega
          obtain rfl : res = ((kk : Nat) : Int) := by
            rw [← HR.out, bad4_all (fun j hj => HALL.out j (by omega)), if_pos (by have := HRD.out.1; omega)]
            omega
          go_wp2_with fail
          go_ret
          exact ⟨rfl, HBW.out⟩
      · have q1 : (((g.ev rr).k : Int) != 1) = true := by simp [hk]
        have HSAME : Hid (kk = (numK rdP g.evs (rr + 1)).length) := by rw [Hid, numK_no' hk, HKK.out]
        clear hk
        go_wp2_with fail
        go_roundg (g.evs.length - (rr + 1))
        case measure => have := HKF.out; omega
        case rel => exact ⟨rr + 1, kk, by go_num, rfl, by omega, hk0, by have := HKF.out; rw [Hid]; omega, HSAME.out, HALL.out, HW.out⟩
    · obtain rfl : rr = g.evs.length := by omega
      have HRL : Hid (kk = g.reads.length) := by rw [Hid, hrl'.out]; exact HKK.out
      by_cases hkl : kk < g.rf.length
      · obtain rfl : res = ((kk : Nat) : Int) := by
          rw [← HR.out]
          exact bad4_hit hkl HALL.out (by unfold ok4 ok4a; rw [decide_eq_false (by have := HRL.out; omega)]; simp)
        go_wp2_with fail
        go_ret
        exact ⟨rfl, HBW.out⟩
      · obtain rfl : res = -1 := by
          rw [← HR.out, bad4_all (fun j hj => HALL.out j (by omega)), if_neg (by have := HRL.out; omega)]
        go_wp2_with fail
        go_ret
        exact ⟨rfl, HBW.out⟩
end Go.Proofs.YthiijcappjaagaaGreatDoor
namespace Go.Proofs.YthiijcappjaagaaGreatDoor
open Go.RowKit Go.Shelf Sx
theorem sub_of_mem : ∀ (b a : List Int), a.Pairwise (· < ·) → b.Pairwise (· < ·) → (∀ x ∈ a, x ∈ b) → a.Sublist b
  | [], a, _, _, h => by
    cases a with
    | nil => exact List.Sublist.slnil
    | cons x a => exact absurd (h x (by simp)) (by simp)
  | y :: b, [], _, _, _ => List.nil_sublist _
  | y :: b, x :: a, ha, hb, h => by
    obtain ⟨ha1, ha2⟩ := List.pairwise_cons.1 ha
    obtain ⟨hb1, hb2⟩ := List.pairwise_cons.1 hb
    by_cases e : x = y
    · subst e
      refine List.Sublist.cons_cons x (sub_of_mem b a ha2 hb2 (fun z hz => ?_))
      have h1 := h z (by simp [hz])
      have h2 := ha1 z hz
      rcases List.mem_cons.1 h1 with rfl | h3
      · omega
      · exact h3
    · have hx : x ∈ b := by
        rcases List.mem_cons.1 (h x (by simp)) with h1 | h1
        · exact absurd h1 e
        · exact h1
      have hy := hb1 x hx
      refine List.Sublist.cons y (sub_of_mem b (x :: a) ha hb2 (fun z hz => ?_))
      rcases List.mem_cons.1 (h z hz) with h1 | h1
      · rcases List.mem_cons.1 hz with h2 | h2
        · omega
        · have := ha1 z h2; omega
      · exact h1
theorem wrs_rise (g : Gr) (c : Int) (k : Nat) : (wrs g c k).Pairwise (· < ·) := by
  unfold wrs
  rw [List.pairwise_map]
  refine List.Pairwise.imp (R := (· < ·)) (fun {a b} h => by omega) ?_
  exact List.Pairwise.filter _ List.pairwise_lt_range
theorem srtI_le (l : List Int) : (srtI l).Pairwise (· ≤ ·) := by
  unfold srtI
  have := List.pairwise_mergeSort (le := fun x y : Int => decide (x ≤ y)) (by intro a b c; simp; omega) (by intro a b; simp; omega) l
  exact this.imp (fun h => by simpa using h)
theorem srtI_perm (l : List Int) : (srtI l).Perm l := by unfold srtI; exact List.mergeSort_perm l _
theorem nodup_lt {l : List Int} (h : l.Pairwise (· ≤ ·)) (hn : l.Nodup) : l.Pairwise (· < ·) := by
  have := List.Pairwise.and h hn
  exact this.imp (fun ⟨h1, h2⟩ => by omega)
def coOk (g : Gr) (c : Int) (l : List Int) : Prop := (∀ (i : Nat) (x : Int), l[i]? = some x → ∃ n : Nat, x = ((n : Nat) : Int) ∧ n < g.evs.length ∧ isWr g c n = true) ∧ ∀ (i j : Nat) (x : Int), j < i → l[i]? = some x → l[j]? ≠ some x
theorem nodup_of {l : List Int} (h : ∀ (i j : Nat) (x : Int), j < i → l[i]? = some x → l[j]? ≠ some x) : l.Nodup := by
  rw [List.Nodup, List.pairwise_iff_getElem]
  intro i j hi hj hij e
  exact h j i l[j] hij (List.getElem?_eq_getElem hj) (by rw [List.getElem?_eq_getElem hi, e])
theorem ord_of_co {g : Gr} {c : Int} {l : List Int} (hl : l.length = (wrs g c g.evs.length).length) (h0 : l.getD 0 0 = c) (h : coOk g c l) : isOrdB l c (wrs g c g.evs.length) = true := by
  have hm : ∀ x ∈ srtI l, x ∈ wrs g c g.evs.length := fun x hx => by
    obtain ⟨i, hi, e⟩ := List.mem_iff_getElem.1 (srtI_mem.1 hx)
    obtain ⟨n, hn, h1, h2⟩ := h.1 i x (by rw [List.getElem?_eq_getElem hi, e])
    exact mem_wrs.2 ⟨n, hn, h1, h2⟩
  have hr := nodup_lt (srtI_le l) ((srtI_perm l).nodup_iff.2 (nodup_of h.2))
  have hs := sub_of_mem _ _ hr (wrs_rise g c _) hm
  have he := hs.eq_of_length (by rw [srtI_len, hl])
  unfold isOrdB
  rw [decide_eq_true hl, decide_eq_true h0, decide_eq_true he]
  rfl
theorem co_of_ord {g : Gr} {c : Int} {l : List Int} (h : isOrdB l c (wrs g c g.evs.length) = true) : l.length = (wrs g c g.evs.length).length ∧ l.getD 0 0 = c ∧ coOk g c l := by
  obtain ⟨h1, h2, h3⟩ := ord_parts h
  refine ⟨h1, h2, fun i x hx => ?_, fun i j x hij hx hy => ?_⟩
  · have : x ∈ srtI l := srtI_mem.2 (List.mem_of_getElem? hx)
    rw [h3] at this
    obtain ⟨n, e, hn, hw⟩ := mem_wrs.1 this
    exact ⟨n, e, hn, hw⟩
  · have hn : l.Nodup := by
      rw [← (srtI_perm l).nodup_iff, h3]
      exact (wrs_rise g c _).imp (fun h => by omega)
    rw [List.Nodup, List.pairwise_iff_getElem] at hn
    obtain ⟨hi, e1⟩ := List.getElem?_eq_some_iff.1 hx
    obtain ⟨hj, e2⟩ := List.getElem?_eq_some_iff.1 hy
    exact hn j i hj hi hij (by rw [e1, e2])
end Go.Proofs.YthiijcappjaagaaGreatDoor
