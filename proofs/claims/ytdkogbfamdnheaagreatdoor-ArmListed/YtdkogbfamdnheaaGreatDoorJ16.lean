import Derived.Test.YtdkogbfamdnheaaGreatDoorJ15
import Derived.Deep.DeepCutAuto
namespace Go.Proofs.YtdkogbfamdnheaaGreatDoor
open Go.RowKit Go.Shelf Sx
set_option maxRecDepth 100000
set_option maxHeartbeats 16000000
set_option linter.unusedSimpArgs false
set_option linter.unusedVariables false
def Qak (P : Nat → Bool) : Nat → Nat → Int
 | _, 0 => -1
 | a, f + 1 => if P a = true then (a : Int) else Qak P (a + 1) f
theorem Qaz {P : Nat → Bool} : ∀ {a f i : Nat}, a ≤ i → i < a + f → (∀ j, a ≤ j → j < i → P j = false) → P i = true → Qak P a f = (i : Int)
 | a, 0, i, h1, h2, _, _ => by omega
 | a, f + 1, i, h1, h2, h3, h4 => by
  rw [Qak]
  by_cases e : a = i
  ·subst e; rw [if_pos h4]
  ·rw [if_neg (by rw [h3 a nW oW]; simp)]
   exact Qaz oW oW (fun j hj => h3 j oW) h4
theorem Qai {P : Nat → Bool} : ∀ {a f : Nat}, (∀ j, a ≤ j → j < a + f → P j = false) → Qak P a f = -1
 | a, 0, _ => rfl
 | a, f + 1, h => by
  rw [Qak, if_neg (by rw [h a nW oW]; simp)]
  exact Qai (fun j h1 h2 => h j oW oW)
def Ev.zero : Ev := ⟨0, 0, 0, 0, 0⟩
def Gr.ev (g : Gr) (i : Nat) : Ev := g.evs.getD i Ev.zero
theorem Gr.ev_at {g : Gr} {i : Nat} (h : i < g.evs.length) : g.evs[i]? = some (g.ev i) := by
 unfold Gr.ev
 rw [List.getD_eq_getElem?_getD, List.getElem?_eq_getElem h]
 rfl
def Qdc (g : Gr) (q : Bool) : Int := Qak (fun i => !Qbm g.cells (g.ev i) q) g.cells.toNat (g.evs.length - g.cells.toNat)
def Qdl (c : Nat) (q : Bool) : Ev := ⟨-1, 2, (c : Int), 0, if q then 11 else 1⟩
def Qcg (g : Gr) (q : Bool) : Int := Qak (fun i => @decide (g.ev i ≠ Qdl i q) (Ev.ndec _ _)) 0 g.cells.toNat
theorem Qo3 (b : Nat) (V : GrV) (g : Gr) (q : Bool) (w : World) (h : BkR w b V g q) (hF : Frm w) (h1 : Qar g = false) :
  Calls Tryz.prog 118 #[pv b] w fun r w' => r = .returned (.int .i64 (Qdc g q)) ∧ Below w.heap.size w w' := by
 have hsz : 0 ≤ g.cells ∧ g.cells ≤ (g.evs.length : Int) ∧ g.evs.length ≤ 256 := by
  simp [Qar] at h1
  omega
 obtain ⟨n, hn⟩ : ∃ n : Nat, g.cells = (n : Int) := ⟨g.cells.toNat, oW⟩
 have hb3 : Qdc g q = Qak (fun i => !Qbm g.cells (g.ev i) q) n (g.evs.length - n) := by unfold Qdc; rw [hn, Int.toNat_natCast]
 obtain ⟨p, cap, ep, hp, _⟩ := h.gr.ev
 have hnl : n ≤ g.evs.length := by omega
 generalize hr : Qdc g q = r at *
 have HR := Qa hb3
 have HP := Qa hp
 have H := Qa h
 have HF := Qa hF
 have hl256 := hsz.2.2
 have c0 := h.cells
 rw [hn] at c0
 clear hb3 hr hp h hF h1 hsz
 go_enter Tryz.func118, Tryz.ntmps118
 go_wp2_with fail
 clear c0
 go_loopg [3] (g.evs.length - n) (fun f i wr => ∃ k : Nat, i = .int .i64 ((k : Nat) : Int) ∧ n ≤ k ∧ k ≤ g.evs.length ∧ Hid (k + f = g.evs.length) ∧ Hid (∀ j, n ≤ j → j < k → (!Qbm g.cells (g.ev j) q) = false) ∧ Hid (Below w.heap.size w wr))
 case atStart => exact ⟨n, rfl, Nat.le_refl _, hnl, by rw [Hid]; omega, (fun j h1 h2 => by omega), Below.refl _ _⟩
 case round =>
  obtain ⟨k, rfl, hk0, hk, HKF, HALL, HB⟩ := hrel
  have hBk := H.out.below HB.out
  have c1 := hBk.evs
  rw [ep] at c1
  by_cases hlt : k < g.evs.length
  ·obtain ⟨s, o, rfl, hat⟩ := HP.out oW
   have hat' := hat.below HB.out
   have he := Gr.ev_at hlt
   have x0 := hat'.c0 k _ he
   have x1 := hat'.c1 k _ he
   have x2 := hat'.c2 k _ he
   have x3 := hat'.c3 k _ he
   have x4 := hat'.c4 k _ he
   have K0 : (0 : Int) ≤ (k : Int) := by omega
   have K1 : (k : Int) < (g.evs.length : Int) := by omega
   have hc := Qm2 b V g q (g.ev k) wr hBk (HF.out.step HB.out)
   cases hok : Qbm g.cells (g.ev k) q
   ·rw [hok] at hc
    have HC := Qa hc
    have er : r = (k : Int) := by
     rw [HR.out]
     exact Qaz hk0 oW HALL.out (by rw [hok]; rfl)
    subst er
    clear hc hok he hat hat' hBk
    go_wp2_with fail
    refine HC.out.mono ?_
    rintro e w1 ⟨rfl, hB1⟩
    go_wp2_with fail
    go_ret
    exact ⟨rfl, Qaa HB.out HB.out.size hB1⟩
   ·rw [hok] at hc
    have HC := Qa hc
    have HOK := Qa hok
    clear hc hok he hat hat' hBk
    go_wp2_with fail
    refine HC.out.mono ?_
    rintro e w1 ⟨rfl, hB1⟩
    go_wp2_with fail
    go_roundg (g.evs.length - (k + 1))
    case measure => have := HKF.out; omega
    case rel =>
     refine ⟨k + 1, by go_num, oW, oW, by have := HKF.out; rw [Hid]; omega, fun j h1 h2 => ?_, Qaa HB.out HB.out.size hB1⟩
     by_cases e : j = k
     ·subst e; rw [HOK.out]; rfl
     ·exact HALL.out j h1 oW
  ·obtain rfl : k = g.evs.length := by omega
   have er : r = -1 := by
    rw [HR.out]
    exact Qai (fun j h1 h2 => HALL.out j h1 oW)
   subst er
   clear hBk
   go_wp2_with fail
   go_ret
   exact ⟨rfl, HB.out⟩
theorem Qwr (e : Ev) (t k l v m : Int) : e = ⟨t, k, l, v, m⟩ ↔ e.t = t ∧ e.k = k ∧ e.l = l ∧ e.v = v ∧ e.m = m := by
 obtain ⟨a, b, c, d, f⟩ := e
 simp
theorem Qmq (b : Nat) (V : GrV) (g : Gr) (q : Bool) (w : World) (h : BkR w b V g q) (h1 : Qar g = false) :
  Calls Tryz.prog 117 #[pv b] w fun r w' => r = .returned (.int .i64 (Qcg g q)) ∧ Below w.heap.size w w' := by
 have hsz : 0 ≤ g.cells ∧ g.cells ≤ (g.evs.length : Int) ∧ g.evs.length ≤ 256 := by
  simp [Qar] at h1
  omega
 obtain ⟨n, hn⟩ : ∃ n : Nat, g.cells = (n : Int) := ⟨g.cells.toNat, oW⟩
 have hb3 : Qcg g q = Qak (fun i => @decide (g.ev i ≠ Qdl i q) (Ev.ndec _ _)) 0 n := by unfold Qcg; rw [hn, Int.toNat_natCast]
 obtain ⟨p, cap, ep, hp, _⟩ := h.gr.ev
 have hnl : n ≤ g.evs.length := by omega
 generalize hr : Qcg g q = r at *
 have HR := Qa hb3
 have HP := Qa hp
 have H := Qa h
 have hl256 := hsz.2.2
 clear hb3 hr hp hsz
 go_enter Tryz.func117, Tryz.ntmps117
 have c8 := h.wds
 have c0 := h.cells
 rw [hn] at c0
 clear h h1
 obtain ⟨md, HMD⟩ : ∃ md : Int, Hid (md = if q then 11 else 1) := ⟨_, rfl⟩
 go_upto_if 8 with fail
 go_cut [3] (fun v3 wx => v3 = .int .i64 md ∧ wx = w)
 case first =>
  cases q
  ·obtain rfl : md = 1 := HMD.out
   go_wp2_with fail
   go_meet
   case rel => exact ⟨rfl, rfl⟩
  ·obtain rfl : md = 11 := HMD.out
   go_wp2_with fail
   go_meet
   case rel => exact ⟨rfl, rfl⟩
 case rest =>
 obtain ⟨rfl, hwc⟩ := hcut
 obtain rfl : w = _ := hwc.symm
 go_wp2_with fail
 clear c0 c8
 go_loopg [14] n (fun f i wr => ∃ k : Nat, i = .int .i64 ((k : Nat) : Int) ∧ k ≤ n ∧ Hid (k + f = n) ∧ Hid (∀ j, 0 ≤ j → j < k → @decide (g.ev j ≠ Qdl j q) (Ev.ndec _ _) = false) ∧ Hid (Below w.heap.size w wr))
 case atStart => exact ⟨0, rfl, Nat.zero_le _, Nat.zero_add _, (fun j h1 h2 => by omega), Below.refl _ _⟩
 case round =>
  obtain ⟨k, rfl, hk, HKF, HALL, HB⟩ := hrel
  have hBk := H.out.below HB.out
  have c1 := hBk.evs
  rw [ep] at c1
  clear hBk
  by_cases hlt : k < n
  ·obtain ⟨s, o, rfl, hat⟩ := HP.out oW
   have hat' := hat.below HB.out
   have he := Gr.ev_at (g := g) (i := k) oW
   have x0 := hat'.c0 k _ he
   have x1 := hat'.c1 k _ he
   have x2 := hat'.c2 k _ he
   have x3 := hat'.c3 k _ he
   have x4 := hat'.c4 k _ he
   have K0 : (0 : Int) ≤ (k : Int) := by omega
   have K1 : (k : Int) < (g.evs.length : Int) := by omega
   have hiff : g.ev k = Qdl k q ↔ (g.ev k).t = -1 ∧ (g.ev k).k = 2 ∧ (g.ev k).l = (k : Int) ∧ (g.ev k).v = 0 ∧ (g.ev k).m = md := by rw [Qdl, Qwr, HMD.out]
   have HI := Qa hiff
   clear he hat hat' hiff
   generalize hge : g.ev k = ek at *
   have HGE := Qa hge
   clear hge
   obtain ⟨et, ek', el, ev, em⟩ := ek
   dsimp only at x0 x1 x2 x3 x4 HI
   by_cases hq : et = -1 ∧ ek' = 2 ∧ el = (k : Int) ∧ ev = 0 ∧ em = md
   ·have HQ := Qa hq
    obtain ⟨rfl, rfl, rfl, rfl, rfl⟩ := hq
    go_wp2_with fail
    go_roundg (n - (k + 1))
    case measure => have := HKF.out; omega
    case rel =>
     refine ⟨k + 1, by go_num, oW, by have := HKF.out; rw [Hid]; omega, fun j h1 h2 => ?_, HB.out⟩
     by_cases e : j = k
     ·subst e
      rw [HGE.out]
      exact @decide_eq_false _ (Ev.ndec _ _) (fun h => h (HI.out.2 HQ.out))
     ·exact HALL.out j h1 oW
   ·have er : r = (k : Int) := by
     rw [HR.out]
     refine Qaz (Nat.zero_le _) oW HALL.out ?_
     rw [HGE.out]
     exact @decide_eq_true _ (Ev.ndec _ _) (fun e => hq (HI.out.1 e))
    subst er
    have HQ := Qa hq
    clear hq
    by_cases e1 : et = -1
    ·subst e1
     by_cases e2 : ek' = 2
     ·subst e2
      by_cases e3 : el = (k : Int)
      ·subst e3
       by_cases e4 : ev = 0
       ·subst e4
        by_cases e5 : em = md
        ·exact absurd ⟨rfl, rfl, rfl, rfl, e5⟩ HQ.out
        ·have q9 : ((em : Int) == md) = false := by rw [beq_eq_false_iff_ne]; assumption
         go_wp2_with fail
         go_ret
         exact ⟨rfl, HB.out⟩
       ·have q9 : ((ev : Int) == 0) = false := by rw [beq_eq_false_iff_ne]; assumption
        go_wp2_with fail
        go_ret
        exact ⟨rfl, HB.out⟩
      ·have q9 : ((el : Int) == (k : Int)) = false := by rw [beq_eq_false_iff_ne]; assumption
       go_wp2_with fail
       go_ret
       exact ⟨rfl, HB.out⟩
     ·have q9 : ((ek' : Int) == 2) = false := by rw [beq_eq_false_iff_ne]; assumption
      go_wp2_with fail
      go_ret
      exact ⟨rfl, HB.out⟩
    ·have q9 : ((et : Int) == -1) = false := by rw [beq_eq_false_iff_ne]; assumption
     go_wp2_with fail
     go_ret
     exact ⟨rfl, HB.out⟩
  ·obtain rfl : k = n := by omega
   have er : r = -1 := by
    rw [HR.out]
    exact Qai (fun j h1 h2 => HALL.out j h1 oW)
   subst er
   go_wp2_with fail
   go_ret
   exact ⟨rfl, HB.out⟩
theorem Qfn {w : World} {v : Value} {l : List Int} (h : IntsR w v l) : ∃ p cap, v = .slice p l.length cap ∧ (0 < l.length → ∃ s o, p = some ⟨s, o, none⟩ ∧ s < w.heap.size ∧ ∀ (i : Nat) (x : Int), l[i]? = some x → w.cell? ⟨s, o + i, none⟩ = some (.int .i64 x)) := by
 rcases h with ⟨a, cap, rfl, rfl⟩ | ⟨s, o, cap, rfl, h1, h2⟩
 ·exact ⟨_, _, rfl, fun h => by simp at h⟩
 ·exact ⟨_, _, rfl, fun _ => ⟨s, o, rfl, h1, h2⟩⟩
def Qi8 (l : List Int) (x : Int) : Int := match l.findIdx? (fun y => y == x) with | some i => (i : Int) | none => -1
theorem QAq {l : List Int} {x : Int} {k : Nat} (h0 : l[k]? = some x) (hb : ∀ i, i < k → l[i]? ≠ some x) : Qi8 l x = (k : Int) := by
 obtain ⟨hk, e⟩ := List.getElem?_eq_some_iff.1 h0
 have : l.findIdx? (fun y => y == x) = some k := by
  rw [List.findIdx?_eq_some_iff_getElem]
  refine ⟨hk, by rw [e]; simp, fun j hj => ?_⟩
  have := hb j hj
  rw [List.getElem?_eq_getElem oW] at this
  simpa using this
 simp [Qi8, this]
theorem Qws {l : List Int} {x : Int} (hb : ∀ i, i < l.length → l[i]? ≠ some x) : Qi8 l x = -1 := by
 have : l.findIdx? (fun y => y == x) = none := by
  rw [List.findIdx?_eq_none_iff]
  intro y hy
  obtain ⟨i, hi, rfl⟩ := List.mem_iff_getElem.1 hy
  have := hb i hi
  rw [List.getElem?_eq_getElem hi] at this
  simpa using this
 simp [Qi8, this]
theorem Qyu (l : List Int) (x : Int) : decide (0 ≤ Qi8 l x) = l.contains x := by
 unfold Qi8
 cases h : l.findIdx? (fun y => y == x) with
 | none =>
  rw [List.findIdx?_eq_none_iff] at h
  have : l.contains x = false := by
   rw [Bool.eq_false_iff]
   intro hc
   have := h x (List.contains_iff_mem.1 hc)
   simp at this
  rw [this]
  rfl
 | some i =>
  obtain ⟨h1, h2, _⟩ := List.findIdx?_eq_some_iff_getElem.1 h
  have : l.contains x = true := by
   rw [List.contains_iff_mem, ← eq_of_beq h2]
   exact List.getElem_mem _
  rw [this]
  simp
theorem Qnq (v : Value) (l : List Int) (y : Int) (w : World) (hv : IntsR w v l) (hm : l.length ≤ 9223372036854775807) :
  Calls Tryz.prog 173 #[v, .int .i64 y] w fun e w' => e = .returned (.int .i64 (Qi8 l y)) ∧ Below w.heap.size w w' := by
 obtain ⟨p, cap, rfl, hp⟩ := Qfn hv
 clear hv
 have HP := Qa hp
 clear hp
 generalize hr : Qi8 l y = r
 have HR := Qa hr
 clear hr
 go_enter Tryz.func173, Tryz.ntmps173
 go_wp2_with fail
 go_loopg [8] l.length (fun f i wr => ∃ k : Nat, i = .int .i64 ((k : Nat) : Int) ∧ k ≤ l.length ∧ Hid (k + f = l.length) ∧ Hid (∀ i, i < k → l[i]? ≠ some y) ∧ Hid (Below w.heap.size w wr))
 case atStart => exact ⟨0, rfl, Nat.zero_le _, Nat.zero_add _, (fun i h => by omega), Below.refl _ _⟩
 case round =>
  obtain ⟨k, rfl, hk, HKF, HC, HB⟩ := hrel
  by_cases hlt : k < l.length
  ·obtain ⟨s, o, rfl, hs, hc⟩ := HP.out oW
   obtain ⟨x, hx⟩ : ∃ x, l[k]? = some x := ⟨_, List.getElem?_eq_getElem hlt⟩
   have c0 := (HB.out.cell (p := ⟨s, o + k, none⟩) hs).trans (hc k x hx)
   have K0 : (0 : Int) ≤ (k : Int) := by omega
   have K1 : (k : Int) < (l.length : Int) := by omega
   have HX := Qa hx
   clear hx hc
   by_cases e : x = y
   ·subst e
    have q1 : ((x : Int) == x) = true := by simp
    have er : r = (k : Int) := by rw [← HR.out]; exact QAq HX.out HC.out
    subst er
    go_wp2_with fail
    go_ret
    exact ⟨rfl, HB.out⟩
   ·have q1 : ((y : Int) == x) = false := by rw [beq_eq_false_iff_ne]; exact fun h => e h.symm
    have HE := Qa e
    clear e
    go_wp2_with fail
    go_roundg (l.length - (k + 1))
    case measure => have := HKF.out; omega
    case rel =>
     refine ⟨k + 1, by go_num, oW, by have := HKF.out; rw [Hid]; omega, fun i hi => ?_, HB.out⟩
     by_cases e : i = k
     ·rw [e, HX.out]; intro h; exact HE.out (by injection h)
     ·exact HC.out i oW
  ·obtain rfl : k = l.length := by omega
   have er : r = -1 := by rw [← HR.out]; exact Qws HC.out
   subst er
   go_wp2_with fail
   go_ret
   exact ⟨rfl, HB.out⟩
theorem Qg (v : Value) (l : List Int) (y : Int) (w : World) (hv : IntsR w v l) (hm : l.length ≤ 9223372036854775807) :
  Calls Tryz.prog 163 #[v, .int .i64 y] w fun e w' => e = .returned (.bool (l.contains y)) ∧ Below w.heap.size w w' := by
 have hc := Qnq v l y w hv hm
 obtain ⟨p, cap, rfl, _⟩ := Qfn hv
 rw [← Qyu]
 generalize Qi8 l y = r at *
 go_enter Tryz.func163, Tryz.ntmps163
 go_wp2_with fail
 refine hc.mono ?_
 rintro e w1 ⟨rfl, hB⟩
 clear hc
 go_wp2_with fail
 go_ret
 exact ⟨rfl, hB⟩
def isB (evs : List Ev) (i : Int) (ks : List Int) : Bool := decide (0 ≤ i) && decide (i < evs.length) && ks.contains (evs.getD i.toNat Ev.zero).k
theorem Qf0 (b : Nat) (V : GrV) (g : Gr) (q : Bool) (i : Int) (v : Value) (ks : List Int) (w : World) (h : BkR w b V g q) (hv : IntsR w v ks) (hm : ks.length ≤ 9223372036854775807) :
  Calls Tryz.prog 148 #[pv b, .int .i64 i, v] w fun e w' => e = .returned (.bool (isB g.evs i ks)) ∧ Below w.heap.size w w' := by
 obtain ⟨p, cap, ep, hp, _⟩ := h.gr.ev
 have c1 := h.evs
 rw [ep] at c1
 obtain ⟨pk, ck, rfl, _⟩ := Qfn hv
 generalize hr : isB g.evs i ks = r
 have HR := Qa hr
 clear hr
 by_cases h0 : 0 ≤ i
 ·by_cases h1 : i < (g.evs.length : Int)
  ·obtain ⟨k, rfl⟩ : ∃ k : Nat, i = (k : Int) := ⟨i.toNat, oW⟩
   obtain ⟨s, o, rfl, hat⟩ := hp oW
   have x1 := hat.c1 k _ (Gr.ev_at (g := g) (i := k) oW)
   have er : r = ks.contains (g.ev k).k := by
    rw [← HR.out]
    unfold isB Gr.ev
    rw [decide_eq_true h0, decide_eq_true h1, Int.toNat_natCast]
    rfl
   have hc := Qg (.slice pk ks.length ck) ks (g.ev k).k w hv hm
   rw [← er] at hc
   have HC := Qa hc
   clear hc hp hat h hv er
   generalize (g.ev k).k = kk at *
   go_enter Tryz.func148, Tryz.ntmps148
   go_wp2_with fail
   refine HC.out.mono ?_
   rintro e w1 ⟨rfl, hB⟩
   go_wp2_with fail
   go_ret
   exact ⟨rfl, hB⟩
  ·obtain rfl : r = false := by rw [← HR.out]; simp [isB]; omega
   go_enter Tryz.func148, Tryz.ntmps148
   go_wp2_with fail
   go_ret
   exact ⟨rfl, Below.refl _ _⟩
 ·obtain rfl : r = false := by rw [← HR.out]; simp [isB]; omega
  go_enter Tryz.func148, Tryz.ntmps148
  go_wp2_with fail
  go_ret
  exact ⟨rfl, Below.refl _ _⟩
def poB (evs : List Ev) (a b : Nat) : Bool := decide (a < b) && decide ((evs.getD a Ev.zero).t = (evs.getD b Ev.zero).t) && decide ((evs.getD a Ev.zero).t ≠ -1)
theorem Qbp {l : List Ev} {i : Nat} (h : i < l.length) : l[i]? = some (l.getD i Ev.zero) := by
 rw [List.getD_eq_getElem?_getD, List.getElem?_eq_getElem h]
 rfl
theorem Qh0 (v : Value) (l : List Ev) (a b : Nat) (w : World) (h : EvArg w v l) (ha : a < l.length) (hb : b < l.length) :
  Calls Tryz.prog 128 #[v, .int .i64 ((a : Nat) : Int), .int .i64 ((b : Nat) : Int)] w fun e w' => e = .returned (.bool (poB l a b)) ∧ Below w.heap.size w w' := by
 obtain ⟨p, cap, rfl, hp, _⟩ := h
 obtain ⟨s, o, rfl, hat⟩ := hp oW
 have x0 := hat.c0 a _ (Qbp ha)
 have y0 := hat.c0 b _ (Qbp hb)
 clear hp hat
 have A0 : (0 : Int) ≤ (a : Int) := by omega
 have A1 : (a : Int) < (l.length : Int) := by omega
 have B0 : (0 : Int) ≤ (b : Int) := by omega
 have B1 : (b : Int) < (l.length : Int) := by omega
 generalize hr : poB l a b = r
 have HR := Qa hr
 clear hr
 unfold poB at HR
 generalize (l.getD a Ev.zero).t = ta at *
 generalize (l.getD b Ev.zero).t = tb at *
 go_enter Tryz.func128, Tryz.ntmps128
 by_cases hab : a < b
 ·by_cases ht : ta = tb
  ·subst ht
   have q1 : ((ta : Int) == ta) = true := by simp
   by_cases hm : ta = -1
   ·obtain rfl : r = false := by rw [← HR.out]; simp [hm]
    subst hm
    go_wp2_with fail
    go_quiet (fail)
    go_wp2_with fail
    go_ret
    exact ⟨rfl, Qab bW _⟩
   ·obtain rfl : r = true := by rw [← HR.out]; simp [hm, hab]
    have q2 : ((ta : Int) != -1) = true := by simp [hm]
    clear hm
    go_wp2_with fail
    go_quiet (fail)
    go_wp2_with fail
    go_ret
    exact ⟨rfl, Qab bW _⟩
  ·obtain rfl : r = false := by rw [← HR.out]; simp [ht]
   have q1 : ((ta : Int) == tb) = false := by rw [beq_eq_false_iff_ne]; exact ht
   clear ht
   go_wp2_with fail
   go_quiet (fail)
   go_wp2_with fail
   go_ret
   exact ⟨rfl, Qab bW _⟩
 ·obtain rfl : r = false := by rw [← HR.out]; simp; omega
  have hab' : ¬ (a : Int) < (b : Int) := by omega
  go_wp2_with fail
  go_quiet (fail)
  go_wp2_with fail
  go_ret
  exact ⟨rfl, Qab bW _⟩
def Qa9 (P : Ev → Bool) (l : List Ev) (k : Nat) : List Nat := (List.range k).filter (fun i => P (l.getD i Ev.zero))
theorem Qyv {P : Ev → Bool} {l : List Ev} {k : Nat} (h : P (l.getD k Ev.zero) = true) : Qa9 P l (k + 1) = Qa9 P l k ++ [k] := by
 unfold Qa9
 rw [List.range_succ, List.filter_append, List.filter_cons_of_pos (p := fun i => P (l.getD i Ev.zero)) h]
 rfl
theorem QAr {P : Ev → Bool} {l : List Ev} {k : Nat} (h : P (l.getD k Ev.zero) = false) : Qa9 P l (k + 1) = Qa9 P l k := by
 unfold Qa9
 rw [List.range_succ, List.filter_append, List.filter_cons_of_neg (by rw [h]; simp)]
 exact List.append_nil _
theorem Qq2 (P : Ev → Bool) (l : List Ev) (k : Nat) : (Qa9 P l k).length ≤ k := by
 unfold Qa9
 have := List.length_filter_le (fun i => P (l.getD i Ev.zero)) (List.range k)
 rw [List.length_range] at this
 exact this
def toI (l : List Nat) : List Int := l.map (fun x => ((x : Nat) : Int))
theorem Qyw (l : List Nat) (x : Nat) : Qaf (toI l) ++ [.int .i64 ((x : Nat) : Int)] = Qaf (toI (l ++ [x])) := by simp [Qaf, toI]
theorem Qyx (w : World) (p : Nat) : ∀ j u, ([.int .i64 ((p : Nat) : Int)] : List Value)[j]? = some u → (w.alloc (.cells #[.int .i64 ((p : Nat) : Int)] 3)).cell? ((⟨w.heap.size, 0, none⟩ : Addr).add j) = some u := by
 intro j u hj
 match j, hj with
 | 0, hj =>
  simp at hj
  subst hj
  exact (Blk.new w 3 #[.int .i64 (p : Int)]).cell (j := 0) rfl
theorem Qag {w : World} {base : Nat} {e : TypeId} {size : Nat} {v : Value} {n : Nat} {xs : List Value} (h : w.ownsRow base e size v n xs) : ∃ a cap, v = .slice a n cap := by
 rcases h.2 with ⟨rfl, rfl⟩ | ⟨g, cap, cur, rfl, _⟩
 ·exact ⟨_, _, rfl⟩
 ·exact ⟨_, _, rfl⟩
theorem QAs (e : Ev) (w : World) :
  Calls Tryz.prog 147 #[.agg #[.int .i64 e.t, .int .i64 e.k, .int .i64 e.l, .int .u64 e.v, .int .i64 e.m]] w fun r w' => r = .returned (.bool (e.k == 1)) ∧ Below w.heap.size w w' := by
 obtain ⟨t, k, l, v, m⟩ := e
 dsimp only
 have hb := Blk.new w 34 #[.int .i64 t, .int .i64 k, .int .i64 l, .int .u64 v, .int .i64 m]
 have e1 : (w.alloc (.cells #[.int .i64 t, .int .i64 k, .int .i64 l, .int .u64 v, .int .i64 m] 34)).cell? ⟨w.heap.size, 1, none⟩ = some (.int .i64 k) := hb.cell rfl
 clear hb
 generalize hr : (k == 1) = r
 go_enter Tryz.func147, Tryz.ntmps147
 go_wp2_with fail
 go_ret
 exact ⟨by first | rw [hr] | rfl, bW.alloc nW _⟩
theorem QAt (e : Ev) (x : Int) (c : Nat) (w : World) (hc : Blk w c 3 #[.int .i64 x]) :
  Calls Tryz.prog 153 #[.agg #[.int .i64 e.t, .int .i64 e.k, .int .i64 e.l, .int .u64 e.v, .int .i64 e.m], pv c] w fun r w' => r = .returned (.bool (e.k == x)) ∧ Below w.heap.size w w' := by
 obtain ⟨t, k, l, v, m⟩ := e
 dsimp only
 have hb := Blk.new w 34 #[.int .i64 t, .int .i64 k, .int .i64 l, .int .u64 v, .int .i64 m]
 have e1 : (w.alloc (.cells #[.int .i64 t, .int .i64 k, .int .i64 l, .int .u64 v, .int .i64 m] 34)).cell? ⟨w.heap.size, 1, none⟩ = some (.int .i64 k) := hb.cell rfl
 have c1 := (hc.alloc (.cells #[.int .i64 t, .int .i64 k, .int .i64 l, .int .u64 v, .int .i64 m] 34)).cell (j := 0) rfl
 clear hb hc
 generalize hr : (k == x) = r
 go_enter Tryz.func153, Tryz.ntmps153
 go_wp2_with fail
 go_ret
 exact ⟨by first | rw [hr] | rfl, bW.alloc nW _⟩
end Go.Proofs.YtdkogbfamdnheaaGreatDoor
