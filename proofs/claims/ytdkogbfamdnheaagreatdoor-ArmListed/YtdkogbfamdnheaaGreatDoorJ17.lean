import Derived.Test.YtdkogbfamdnheaaGreatDoorJ16
namespace Go.Proofs.YtdkogbfamdnheaaGreatDoor
open Go.RowKit Go.Shelf Sx
set_option maxRecDepth 100000
set_option maxHeartbeats 16000000
set_option linter.unusedSimpArgs false
set_option linter.unusedVariables false
theorem Qac {w w' : World} {base : Nat} {e : TypeId} {size : Nat} {v : Value} {n : Nat} {xs : List Value} (h : w.ownsRow base e size v n xs) (hb : Below w.heap.size w w') : w'.ownsRow base e size v n xs := by
 refine ⟨h.1, ?_⟩
 rcases h.2 with h | ⟨g, cap, cur, h1, h2, h3, h4⟩
 ·exact .inl h
 ·exact .inr ⟨g, cap, cur, h1, h2, (hb.block g (Array.getElem?_eq_some_iff.1 h3).1).trans h3, h4⟩
theorem Qa6 {w : World} {base b' : Nat} {e : TypeId} {size : Nat} {v : Value} {n : Nat} {xs : List Value} (h : w.ownsRow base e size v n xs) (hb : b' ≤ base) : w.ownsRow b' e size v n xs := by
 refine ⟨h.1, ?_⟩
 rcases h.2 with h2 | ⟨g, cap, cur, h3, h4, h5⟩
 ·exact .inl h2
 ·exact .inr ⟨g, cap, cur, h3, oW, h5⟩
theorem Qky (n : Nat) (h : n ≤ 140737488355328) (w : World) : (Instr.makeSlice 65 (.int .i64 n) (.int .i64 n)).run Tryz.prog w = .ok (.slice (some ⟨w.heap.size, 0, none⟩) n n) (w.alloc (.cells (Qax (List.replicate n false)) 4)) := by
 obtain ⟨i, hx, hz, hs, hb⟩ := info_parts Tryz.infobool
 have := run_make (P := Tryz.prog) w 65 4 i _ Tryz.underlying65 hx hz .i64 .i64 n n oW oW (by rw [hb]; omega) oW
 rw [this, hs]
 have e : madeCells (Value.bool false).cells ((n : Int).toNat * 1) = Qax (List.replicate n false) := by
  apply Array.toList_inj.1
  rw [Int.toNat_natCast, Nat.mul_one, show (Value.bool false).cells = #[.bool false] from rfl, toList_madeCells_one]
  simp [Qax]
 rw [e]
 rfl
theorem Qsw {w : World} {g : Nat} {D : List Bool} (h : Blk w g 4 (Qax D)) {i : Nat} (hi : i < D.length) : w.cell? ⟨g, i, none⟩ = some (.bool (D.getD i false)) := h.cell (by simp [Qax, List.getD, hi])
def Qek (P : Ev → Bool) (l : List Ev) (k : Nat) : List Bool := (List.range l.length).map (fun i => decide (i < k) && P (l.getD i Ev.zero))
theorem Qkz (P : Ev → Bool) (l : List Ev) (k : Nat) : (Qek P l k).length = l.length := by simp [Qek]
theorem Qog (P : Ev → Bool) (l : List Ev) : Qek P l 0 = List.replicate l.length false := by
 unfold Qek
 apply List.ext_getElem
 ·simp
 ·intro i h1 h2; simp
def Qd8 (P : Ev → Bool) (l : List Ev) : List Bool := l.map P
theorem Qqu (P : Ev → Bool) (l : List Ev) : Qek P l l.length = Qd8 P l := by
 unfold Qek Qd8
 apply List.ext_getElem
 ·simp
 ·intro i h1 h2
  have hi : i < l.length := by simpa using h2
  simp [hi, List.getD_eq_getElem?_getD]
theorem Qqv {P : Ev → Bool} {l : List Ev} {k : Nat} {q : Bool} (h : P (l.getD k Ev.zero) = q) : (Qek P l k).set k q = Qek P l (k + 1) := by
 apply List.ext_getElem
 ·simp [Qek]
 ·intro i h1 h2
  rw [List.getElem_set]
  simp only [Qek, List.getElem_map, List.getElem_range]
  by_cases e : k = i
  ·subst e
   rw [if_pos rfl, ← h]
   simp
  ·rw [if_neg e]
   congr 1
   rw [Bool.eq_iff_iff]
   simp
   omega
theorem QAl (e : Ev) (ms : List Int) (c : Nat) (u : Value) (w : World) (hc : Blk w c 36 #[u]) (hu : IntsR w u ms) (hm : ms.length ≤ 9223372036854775807) :
  Calls Tryz.prog 172 #[.agg #[.int .i64 e.t, .int .i64 e.k, .int .i64 e.l, .int .u64 e.v, .int .i64 e.m], pv c] w fun r w' => r = .returned (.bool (ms.contains e.m)) ∧ Below w.heap.size w w' := by
 obtain ⟨t, k, l, v, m⟩ := e
 dsimp only
 have hb := Blk.new w 34 #[.int .i64 t, .int .i64 k, .int .i64 l, .int .u64 v, .int .i64 m]
 have hBA := (Below.refl w.heap.size w).alloc nW (.cells #[.int .i64 t, .int .i64 k, .int .i64 l, .int .u64 v, .int .i64 m] 34)
 have e1 : (w.alloc (.cells #[.int .i64 t, .int .i64 k, .int .i64 l, .int .u64 v, .int .i64 m] 34)).cell? ⟨w.heap.size, 4, none⟩ = some (.int .i64 m) := hb.cell rfl
 obtain ⟨p, cap, rfl, _⟩ := Qfn hu
 have c1 := (hc.alloc (.cells #[.int .i64 t, .int .i64 k, .int .i64 l, .int .u64 v, .int .i64 m] 34)).cell (j := 0) rfl
 have hcc := Qg _ ms m _ (hu.below hBA) hm
 clear hb hc hu
 generalize ms.contains m = r at *
 have HC := Qa hcc
 have HBA := Qa hBA
 clear hcc hBA
 go_enter Tryz.func172, Tryz.ntmps172
 go_wp2_with fail
 refine HC.out.mono ?_
 rintro e w2 ⟨rfl, hB2⟩
 go_wp2_with fail
 go_ret
 exact ⟨rfl, HBA.out.trans (hB2.mono sW)⟩
theorem Qqw (v : Value) (l : List Ev) (w : World) (h : EvArg w v l) :
  Calls Tryz.prog 146 #[v, .func (.func 147) #[] #[]] w fun r w' => ∃ u, r = .returned u ∧ w'.ownsRow w.heap.size 3 1 u (Qa9 (fun e => e.k == 1) l l.length).length (Qaf (toI (Qa9 (fun e => e.k == 1) l l.length))) ∧ Below w.heap.size w w' := by
 obtain ⟨i0, hi, hz0, hz1, hz2⟩ := info_parts Tryz.infoint
 obtain ⟨p, cap, rfl, hp, hlen⟩ := h
 have HP := Qa hp
 clear hp
 go_enter Tryz.func146, Tryz.ntmps146
 go_wp2_with fail
 go_loopg [5, 10] l.length (fun f ov i wr => ∃ k : Nat, i = .int .i64 ((k : Nat) : Int) ∧ k ≤ l.length ∧ Hid (k + f = l.length) ∧ Hid (wr.ownsRow w.heap.size 3 1 ov (Qa9 (fun e => e.k == 1) l k).length (Qaf (toI (Qa9 (fun e => e.k == 1) l k)))) ∧ Hid (Below w.heap.size w wr))
 case atStart => exact ⟨0, rfl, Nat.zero_le _, Nat.zero_add _, World.ownsRow_nil _ _ _ _, Below.refl _ _⟩
 case round =>
  obtain ⟨k, rfl, hk, HKF, HO, HB⟩ := hrel
  obtain ⟨oa, ocap, rfl⟩ := Qag HO.out
  by_cases hlt : k < l.length
  ·obtain ⟨s, o, rfl, hat⟩ := HP.out oW
   have hat' := hat.below HB.out
   have he := Qbp hlt
   have x0 := hat'.c0 k _ he
   have x1 := hat'.c1 k _ he
   have x2 := hat'.c2 k _ he
   have x3 := hat'.c3 k _ he
   have x4 := hat'.c4 k _ he
   have K0 : (0 : Int) ≤ (k : Int) := by omega
   have K1 : (k : Int) < (l.length : Int) := by omega
   have hnl := Qq2 (fun e => e.k == 1) l k
   have HY := Qa (fun h => Qyv (P := fun e => e.k == 1) (l := l) (k := k) h)
   have HN := Qa (fun h => QAr (P := fun e => e.k == 1) (l := l) (k := k) h)
   clear hat hat' he
   generalize l.getD k Ev.zero = e at *
   obtain ⟨t, kk, ll, vv, m⟩ := e
   dsimp only at x0 x1 x2 x3 x4 HY HN
   have hb := Blk.new wr 34 #[.int .i64 t, .int .i64 kk, .int .i64 ll, .int .u64 vv, .int .i64 m]
   have y0 : (wr.alloc (.cells #[.int .i64 t, .int .i64 kk, .int .i64 ll, .int .u64 vv, .int .i64 m] 34)).cell? ⟨wr.heap.size, 0, none⟩ = some (.int .i64 t) := hb.cell rfl
   have y1 : (wr.alloc (.cells #[.int .i64 t, .int .i64 kk, .int .i64 ll, .int .u64 vv, .int .i64 m] 34)).cell? ⟨wr.heap.size, 1, none⟩ = some (.int .i64 kk) := hb.cell rfl
   have y2 : (wr.alloc (.cells #[.int .i64 t, .int .i64 kk, .int .i64 ll, .int .u64 vv, .int .i64 m] 34)).cell? ⟨wr.heap.size, 2, none⟩ = some (.int .i64 ll) := hb.cell rfl
   have y3 : (wr.alloc (.cells #[.int .i64 t, .int .i64 kk, .int .i64 ll, .int .u64 vv, .int .i64 m] 34)).cell? ⟨wr.heap.size, 3, none⟩ = some (.int .u64 vv) := hb.cell rfl
   have y4 : (wr.alloc (.cells #[.int .i64 t, .int .i64 kk, .int .i64 ll, .int .u64 vv, .int .i64 m] 34)).cell? ⟨wr.heap.size, 4, none⟩ = some (.int .i64 m) := hb.cell rfl
   have HBA : Hid (Below w.heap.size w (wr.alloc (.cells #[.int .i64 t, .int .i64 kk, .int .i64 ll, .int .u64 vv, .int .i64 m] 34))) := HB.out.alloc HB.out.size _
   have HOA := Qa (HO.out.alloc (.cells #[.int .i64 t, .int .i64 kk, .int .i64 ll, .int .u64 vv, .int .i64 m] 34))
   have hc := QAs ⟨t, kk, ll, vv, m⟩ (wr.alloc (.cells #[.int .i64 t, .int .i64 kk, .int .i64 ll, .int .u64 vv, .int .i64 m] 34))
   dsimp only at hc
   have HC := Qa hc
   clear hb hc
   generalize hq : (kk == 1) = q at HC HY HN
   have HQ := Qa hq
   clear hq
   go_wp2_with fail
   generalize (wr.alloc (.cells #[.int .i64 t, .int .i64 kk, .int .i64 ll, .int .u64 vv, .int .i64 m] 34)) = w1 at *
   generalize wr.heap.size = g1 at *
   refine HC.out.mono ?_
   rintro r w2 ⟨rfl, hB2⟩
   have HB2 : Hid (Below w.heap.size w w2) := Qaa HBA.out HBA.out.size hB2
   have HO2 := Qa (Qac HOA.out hB2)
   have hz2' := HB2.out.size
   clear HC y0 y1 y2 y3 y4 hB2 HOA HBA HB HO x0 x1 x2 x3 x4
   cases q
   ·have HE := Qa (HN.out rfl)
    clear HN HY
    go_wp2_with fail
    go_roundg (l.length - (k + 1))
    case measure => have := HKF.out; omega
    case rel => exact ⟨k + 1, by go_num, oW, by have := HKF.out; rw [Hid]; omega, by rw [Hid, HE.out]; exact HO2.out, HB2.out⟩
   ·have HE := Qa (HY.out rfl)
    clear HN HY
    generalize Qa9 (fun e => e.k == 1) l k = nk at *
    go_wp2_with (at_builtin; refine wpList_append_own_at _ rfl _ _ 36 rfl w.heap.size 3 i0 (.int .i64 0) 1 8 Tryz.underlying36 hi hz0 hz1 hz2 rfl dW (.slice oa nk.length ocap) nk.length (Qaf (toI nk)) rfl (HO2.out.alloc _) ⟨_, 0, none⟩ 1 1 [.int .i64 ((k : Nat) : Int)] rfl rfl (Qyx w2 k) (by simp [Value.oneCell']) (by unfold maxLen; omega) oW (by simp; omega) ?_; intro v5 w5 hown' hgrow _ _)
    have hb5 : Below w.heap.size w w5 := (HB2.out.alloc HB2.out.size _).grown hgrow (by simp; omega) (fun q e => (HO2.out.lt q e).1)
    rw [Qyw] at hown'
    go_roundg (l.length - (k + 1))
    case measure => have := HKF.out; omega
    case rel => exact ⟨k + 1, by go_num, oW, by have := HKF.out; rw [Hid]; omega, by rw [Hid, HE.out, List.length_append]; exact hown', hb5⟩
  ·obtain rfl : k = l.length := by omega
   go_wp2_with fail
   go_ret
   exact ⟨_, rfl, HO.out, HB.out⟩
theorem Qrz (v : Value) (l : List Ev) (x : Int) (c : Nat) (w : World) (h : EvArg w v l) (hc0 : Blk w c 3 #[.int .i64 x]) :
  Calls Tryz.prog 152 #[v, .func (.func 153) #[] #[pv c]] w fun r w' => ∃ g, r = .returned (.slice (some ⟨g, 0, none⟩) l.length l.length) ∧ Blk w' g 4 (Qax (Qd8 (fun e => e.k == x) l)) ∧ w.heap.size ≤ g ∧ Below w.heap.size w w' := by
 obtain ⟨p, cap, rfl, hp, hlen⟩ := h
 have HP := Qa hp
 have hmb := fun W => Qky l.length oW W
 clear hp
 go_enter Tryz.func152, Tryz.ntmps152
 go_wp2_with fail
 have hdb := Blk.new w 4 (Qax (List.replicate l.length false))
 rw [← Qog (fun e => e.k == x) l] at hdb ⊢
 have HDB := Qa hdb
 have HB0 := Qa ((Below.refl w.heap.size w).alloc nW (.cells (Qax (Qek (fun e => e.k == x) l 0)) 4))
 clear hdb hmb
 generalize w.alloc (.cells (Qax (Qek (fun e => e.k == x) l 0)) 4) = w0 at *
 go_loopg [13] l.length (fun f i wr => ∃ k : Nat, i = .int .i64 ((k : Nat) : Int) ∧ k ≤ l.length ∧ Hid (k + f = l.length) ∧ Hid (Blk wr w.heap.size 4 (Qax (Qek (fun e => e.k == x) l k))) ∧ Hid (Below w.heap.size w wr))
 case atStart => exact ⟨0, rfl, Nat.zero_le _, Nat.zero_add _, HDB.out, HB0.out⟩
 case round =>
  clear HDB HB0
  obtain ⟨k, rfl, hk, HKF, HO, HB⟩ := hrel
  by_cases hlt : k < l.length
  ·obtain ⟨s, o, rfl, hat⟩ := HP.out oW
   have hat' := hat.below HB.out
   have he := Qbp hlt
   have x0 := hat'.c0 k _ he
   have x1 := hat'.c1 k _ he
   have x2 := hat'.c2 k _ he
   have x3 := hat'.c3 k _ he
   have x4 := hat'.c4 k _ he
   have K0 : (0 : Int) ≤ (k : Int) := by omega
   have K1 : (k : Int) < (l.length : Int) := by omega
   have HY := Qa (fun q h => Qqv (P := fun e => e.k == x) (l := l) (k := k) (q := q) h)
   clear hat hat' he
   generalize l.getD k Ev.zero = e at *
   obtain ⟨t, kk, ll, vv, m⟩ := e
   dsimp only at x0 x1 x2 x3 x4 HY
   have hb := Blk.new wr 34 #[.int .i64 t, .int .i64 kk, .int .i64 ll, .int .u64 vv, .int .i64 m]
   have y0 : (wr.alloc (.cells #[.int .i64 t, .int .i64 kk, .int .i64 ll, .int .u64 vv, .int .i64 m] 34)).cell? ⟨wr.heap.size, 0, none⟩ = some (.int .i64 t) := hb.cell rfl
   have y1 : (wr.alloc (.cells #[.int .i64 t, .int .i64 kk, .int .i64 ll, .int .u64 vv, .int .i64 m] 34)).cell? ⟨wr.heap.size, 1, none⟩ = some (.int .i64 kk) := hb.cell rfl
   have y2 : (wr.alloc (.cells #[.int .i64 t, .int .i64 kk, .int .i64 ll, .int .u64 vv, .int .i64 m] 34)).cell? ⟨wr.heap.size, 2, none⟩ = some (.int .i64 ll) := hb.cell rfl
   have y3 : (wr.alloc (.cells #[.int .i64 t, .int .i64 kk, .int .i64 ll, .int .u64 vv, .int .i64 m] 34)).cell? ⟨wr.heap.size, 3, none⟩ = some (.int .u64 vv) := hb.cell rfl
   have y4 : (wr.alloc (.cells #[.int .i64 t, .int .i64 kk, .int .i64 ll, .int .u64 vv, .int .i64 m] 34)).cell? ⟨wr.heap.size, 4, none⟩ = some (.int .i64 m) := hb.cell rfl
   have HBA : Hid (Below w.heap.size w (wr.alloc (.cells #[.int .i64 t, .int .i64 kk, .int .i64 ll, .int .u64 vv, .int .i64 m] 34))) := HB.out.alloc HB.out.size _
   have HOA := Qa (HO.out.alloc (.cells #[.int .i64 t, .int .i64 kk, .int .i64 ll, .int .u64 vv, .int .i64 m] 34))
   have hc := QAt ⟨t, kk, ll, vv, m⟩ x c (wr.alloc (.cells #[.int .i64 t, .int .i64 kk, .int .i64 ll, .int .u64 vv, .int .i64 m] 34)) ((hc0.of_below HB.out).alloc _)
   dsimp only at hc
   generalize hq : (kk == x) = q at hc HY
   have HC := Qa hc
   have HQ := Qa (HY.out q rfl)
   clear hb hc hq HY
   go_wp2_with fail
   generalize (wr.alloc (.cells #[.int .i64 t, .int .i64 kk, .int .i64 ll, .int .u64 vv, .int .i64 m] 34)) = w1 at *
   generalize wr.heap.size = g1 at *
   refine HC.out.mono ?_
   rintro r w2 ⟨rfl, hB2⟩
   have HB2 : Hid (Below w.heap.size w w2) := Qaa HBA.out HBA.out.size hB2
   have hO2 := HOA.out.of_below hB2
   have z0 := Qsw hO2 (i := k) (by rw [Qkz]; exact hlt)
   have f0 := hO2.frozen k
   have HO2 := Qa hO2
   clear HC y0 y1 y2 y3 y4 hB2 HOA HBA HB HO x0 x1 x2 x3 x4 hO2
   go_wp2_with fail
   go_roundg (l.length - (k + 1))
   case measure => have := HKF.out; omega
   case rel =>
    refine ⟨k + 1, by go_num, oW, by have := HKF.out; rw [Hid]; omega, ?_, HB2.out.setCell sW _⟩
    have := HO2.out.set k (.bool q)
    rw [Qlr, HQ.out] at this
    exact this
  ·obtain rfl : k = l.length := by omega
   go_wp2_with fail
   go_ret
   have := HO.out
   rw [Qqu] at this
   exact ⟨_, rfl, this, Nat.le_refl _, HB.out⟩
theorem Qr0 (v : Value) (l : List Ev) (ms : List Int) (c : Nat) (u : Value) (w : World) (h : EvArg w v l) (hc0 : Blk w c 36 #[u]) (hu : IntsR w u ms) (hm : ms.length ≤ 9223372036854775807) :
  Calls Tryz.prog 152 #[v, .func (.func 172) #[] #[pv c]] w fun r w' => ∃ g, r = .returned (.slice (some ⟨g, 0, none⟩) l.length l.length) ∧ Blk w' g 4 (Qax (Qd8 (fun e => ms.contains e.m) l)) ∧ w.heap.size ≤ g ∧ Below w.heap.size w w' := by
 obtain ⟨p, cap, rfl, hp, hlen⟩ := h
 have HP := Qa hp
 have hmb := fun W => Qky l.length oW W
 clear hp
 go_enter Tryz.func152, Tryz.ntmps152
 go_wp2_with fail
 have hdb := Blk.new w 4 (Qax (List.replicate l.length false))
 rw [← Qog (fun e => ms.contains e.m) l] at hdb ⊢
 have HDB := Qa hdb
 have HB0 := Qa ((Below.refl w.heap.size w).alloc nW (.cells (Qax (Qek (fun e => ms.contains e.m) l 0)) 4))
 clear hdb hmb
 generalize w.alloc (.cells (Qax (Qek (fun e => ms.contains e.m) l 0)) 4) = w0 at *
 go_loopg [13] l.length (fun f i wr => ∃ k : Nat, i = .int .i64 ((k : Nat) : Int) ∧ k ≤ l.length ∧ Hid (k + f = l.length) ∧ Hid (Blk wr w.heap.size 4 (Qax (Qek (fun e => ms.contains e.m) l k))) ∧ Hid (Below w.heap.size w wr))
 case atStart => exact ⟨0, rfl, Nat.zero_le _, Nat.zero_add _, HDB.out, HB0.out⟩
 case round =>
  clear HDB HB0
  obtain ⟨k, rfl, hk, HKF, HO, HB⟩ := hrel
  by_cases hlt : k < l.length
  ·obtain ⟨s, o, rfl, hat⟩ := HP.out oW
   have hat' := hat.below HB.out
   have he := Qbp hlt
   have x0 := hat'.c0 k _ he
   have x1 := hat'.c1 k _ he
   have x2 := hat'.c2 k _ he
   have x3 := hat'.c3 k _ he
   have x4 := hat'.c4 k _ he
   have K0 : (0 : Int) ≤ (k : Int) := by omega
   have K1 : (k : Int) < (l.length : Int) := by omega
   have HY := Qa (fun q h => Qqv (P := fun e => ms.contains e.m) (l := l) (k := k) (q := q) h)
   clear hat hat' he
   generalize l.getD k Ev.zero = e at *
   obtain ⟨t, kk, ll, vv, m⟩ := e
   dsimp only at x0 x1 x2 x3 x4 HY
   have hb := Blk.new wr 34 #[.int .i64 t, .int .i64 kk, .int .i64 ll, .int .u64 vv, .int .i64 m]
   have y0 : (wr.alloc (.cells #[.int .i64 t, .int .i64 kk, .int .i64 ll, .int .u64 vv, .int .i64 m] 34)).cell? ⟨wr.heap.size, 0, none⟩ = some (.int .i64 t) := hb.cell rfl
   have y1 : (wr.alloc (.cells #[.int .i64 t, .int .i64 kk, .int .i64 ll, .int .u64 vv, .int .i64 m] 34)).cell? ⟨wr.heap.size, 1, none⟩ = some (.int .i64 kk) := hb.cell rfl
   have y2 : (wr.alloc (.cells #[.int .i64 t, .int .i64 kk, .int .i64 ll, .int .u64 vv, .int .i64 m] 34)).cell? ⟨wr.heap.size, 2, none⟩ = some (.int .i64 ll) := hb.cell rfl
   have y3 : (wr.alloc (.cells #[.int .i64 t, .int .i64 kk, .int .i64 ll, .int .u64 vv, .int .i64 m] 34)).cell? ⟨wr.heap.size, 3, none⟩ = some (.int .u64 vv) := hb.cell rfl
   have y4 : (wr.alloc (.cells #[.int .i64 t, .int .i64 kk, .int .i64 ll, .int .u64 vv, .int .i64 m] 34)).cell? ⟨wr.heap.size, 4, none⟩ = some (.int .i64 m) := hb.cell rfl
   have HBA : Hid (Below w.heap.size w (wr.alloc (.cells #[.int .i64 t, .int .i64 kk, .int .i64 ll, .int .u64 vv, .int .i64 m] 34))) := HB.out.alloc HB.out.size _
   have HOA := Qa (HO.out.alloc (.cells #[.int .i64 t, .int .i64 kk, .int .i64 ll, .int .u64 vv, .int .i64 m] 34))
   have hc := QAl ⟨t, kk, ll, vv, m⟩ ms c u (wr.alloc (.cells #[.int .i64 t, .int .i64 kk, .int .i64 ll, .int .u64 vv, .int .i64 m] 34)) ((hc0.of_below HB.out).alloc _) ((hu.below HB.out).below (bW.alloc nW _)) hm
   dsimp only at hc
   generalize hq : (ms.contains m) = q at hc HY
   have HC := Qa hc
   have HQ := Qa (HY.out q rfl)
   clear hb hc hq HY
   go_wp2_with fail
   generalize (wr.alloc (.cells #[.int .i64 t, .int .i64 kk, .int .i64 ll, .int .u64 vv, .int .i64 m] 34)) = w1 at *
   generalize wr.heap.size = g1 at *
   refine HC.out.mono ?_
   rintro r w2 ⟨rfl, hB2⟩
   have HB2 : Hid (Below w.heap.size w w2) := Qaa HBA.out HBA.out.size hB2
   have hO2 := HOA.out.of_below hB2
   have z0 := Qsw hO2 (i := k) (by rw [Qkz]; exact hlt)
   have f0 := hO2.frozen k
   have HO2 := Qa hO2
   clear HC y0 y1 y2 y3 y4 hB2 HOA HBA HB HO x0 x1 x2 x3 x4 hO2
   go_wp2_with fail
   go_roundg (l.length - (k + 1))
   case measure => have := HKF.out; omega
   case rel =>
    refine ⟨k + 1, by go_num, oW, by have := HKF.out; rw [Hid]; omega, ?_, HB2.out.setCell sW _⟩
    have := HO2.out.set k (.bool q)
    rw [Qlr, HQ.out] at this
    exact this
  ·obtain rfl : k = l.length := by omega
   go_wp2_with fail
   go_ret
   have := HO.out
   rw [Qqu] at this
   exact ⟨_, rfl, this, Nat.le_refl _, HB.out⟩
theorem Qf7 (v : Value) (l : List Ev) (x : Int) (w : World) (h : EvArg w v l) :
  Calls Tryz.prog 134 #[v, .int .i64 x] w fun r w' => ∃ g, r = .returned (.slice (some ⟨g, 0, none⟩) l.length l.length) ∧ Blk w' g 4 (Qax (Qd8 (fun e => e.k == x) l)) ∧ w.heap.size ≤ g ∧ Below w.heap.size w w' := by
 have hBA := (Below.refl w.heap.size w).alloc nW (.cells #[.int .i64 x] 3)
 have hc := Qrz v l x w.heap.size _ (h.below hBA) (Blk.new w 3 #[.int .i64 x])
 obtain ⟨p, cap, rfl, _, _⟩ := h
 have HC := Qa hc
 clear hc
 go_enter Tryz.func134, Tryz.ntmps134
 go_wp2_with fail
 refine HC.out.mono ?_
 rintro e w2 ⟨g, rfl, h1, h2, h3⟩
 go_wp2_with fail
 go_ret
 exact ⟨g, rfl, h1, Nat.le_trans hBA.size h2, hBA.trans (h3.mono hBA.size)⟩
theorem Qr1 (V : GrV) (g : Gr) (u : Value) (ms : List Int) (w : World) (h : GrR w V g) (hu : IntsR w u ms) (hm : ms.length ≤ 9223372036854775807) :
  Calls Tryz.prog 161 #[V.val g, u] w fun r w' => ∃ gb, r = .returned (.slice (some ⟨gb, 0, none⟩) g.evs.length g.evs.length) ∧ Blk w' gb 4 (Qax (Qd8 (fun e => ms.contains e.m) g.evs)) ∧ w.heap.size ≤ gb ∧ Below w.heap.size w w' := by
 obtain ⟨ve, vrf, vco, vrm, vad, vda, vct⟩ := V
 obtain ⟨pu, cu, rfl, _⟩ := Qfn hu
 have hB1 := (Below.refl w.heap.size w).alloc nW (.cells #[.int .i64 g.cells, ve, vrf, vco, vrm, vad, vda, vct] 27)
 have hB2 := hB1.alloc sW (.cells #[.slice pu ms.length cu] 36)
 have hb := (Blk.new w 27 #[.int .i64 g.cells, ve, vrf, vco, vrm, vad, vda, vct]).alloc (.cells #[.slice pu ms.length cu] 36)
 have c1 : ((w.alloc (.cells #[.int .i64 g.cells, ve, vrf, vco, vrm, vad, vda, vct] 27)).alloc (.cells #[.slice pu ms.length cu] 36)).cell? ⟨w.heap.size, 1, none⟩ = some ve := hb.cell rfl
 have hc := Qr0 ve g.evs ms (w.heap.size + 1) _ _ (h.ev.below hB2) (Blk.new2 w _ _ _) (hu.below hB2) hm
 have HC := Qa hc
 obtain ⟨p, cap, ep, _, _⟩ := h.ev
 dsimp only at ep
 subst ep
 clear hc hb h
 unfold GrV.val
 go_enter Tryz.func161, Tryz.ntmps161
 go_wp2_with fail
 refine HC.out.mono ?_
 rintro e w2 ⟨gb, rfl, h1, h2, h3⟩
 go_wp2_with fail
 go_ret
 exact ⟨gb, rfl, h1, Nat.le_trans hB2.size h2, hB2.trans (h3.mono hB2.size)⟩
def Gr.reads (g : Gr) : List Nat := Qa9 (fun e => e.k == 1) g.evs g.evs.length
theorem Qys {P : Ev → Bool} {l : List Ev} {i x : Nat} (h : (Qa9 P l l.length)[i]? = some x) : x < l.length := by
 have := List.mem_of_getElem? h
 unfold Qa9 at this
 exact List.mem_range.1 (List.mem_filter.1 this).1
def Qb0 (g : Gr) (i : Nat) (p : Int × Int) : Bool := decide (i < g.reads.length) && decide (p.2 = ((g.reads.getD i 0 : Nat) : Int)) && isB g.evs p.1 [2]
def Qcp (g : Gr) (p : Int × Int) : Bool := decide ((g.ev p.1.toNat).l = (g.ev p.2.toNat).l) && decide ((g.ev p.1.toNat).v = (g.ev p.2.toNat).v)
def Qbt (g : Gr) : Int :=
 let r := Qak (fun i => !(Qb0 g i (g.rf.getD i (0, 0)) && Qcp g (g.rf.getD i (0, 0)))) 0 g.rf.length
 if r = -1 then (if g.rf.length < g.reads.length then (g.rf.length : Int) else -1) else r
theorem Qae {w : World} {v : Value} {l : List (Int × Int)} (h : PArg w v l) : ∃ p cap, v = .slice p l.length cap ∧ (0 < l.length → ∃ s o, p = some ⟨s, o, none⟩ ∧ PairsAt w s o l) ∧ l.length ≤ 9223372036854775807 := by
 rcases h with ⟨x, cap, rfl, rfl⟩ | ⟨s, o, cap, rfl, h, hl⟩
 ·exact ⟨_, _, rfl, (fun h => by simp at h), by simp⟩
 ·exact ⟨_, _, rfl, (fun _ => ⟨s, o, rfl, h⟩), hl⟩
theorem Qgj {w : World} {base : Nat} {e : TypeId} {v : Value} {n : Nat} {xs : List Value} (h : w.ownsRow base e 1 v n xs) (hx : xs.length = n) (h0 : 0 < n) : ∃ s cap, v = .slice (some ⟨s, 0, none⟩) n cap ∧ s < w.heap.size ∧ ∀ (i : Nat) (u : Value), xs[i]? = some u → w.cell? ⟨s, i, none⟩ = some u := by
 rcases h.2 with ⟨_, e2⟩ | ⟨g, cap, cur, ev, _, hb, _, _, _, ht⟩
 ·omega
 ·subst ev
  refine ⟨g, cap, rfl, (Array.getElem?_eq_some_iff.1 hb).1, fun i u hu => ?_⟩
  have hi : i < n := by have := (List.getElem?_eq_some_iff.1 hu).1; omega
  rw [h.cellAt i oW]
  exact hu
theorem Qkj (w : World) (a : Int) : IntsR (w.alloc (.cells #[.int .i64 a] 3)) (.slice (some ⟨w.heap.size, 0, none⟩) 1 1) [a] := by
 have hk := Blk.new w 3 #[.int .i64 a]
 refine .inr ⟨w.heap.size, 0, 1, rfl, hk.lt, fun i x hx => ?_⟩
 match i with
 | 0 => simp at hx; subst hx; exact hk.cell rfl
 | i + 1 => simp at hx
theorem Qnk (b : Nat) (V : GrV) (g : Gr) (q : Bool) (w : World) (h : BkR w b V g q) :
  Calls Tryz.prog 119 #[pv b] w fun r w' => r = .returned (.int .i64 (Qbt g)) ∧ Below w.heap.size w w' := by
 obtain ⟨p, cap, ep, hp, hl40⟩ := h.gr.ev
 obtain ⟨pr, cr, er, hr, hrl⟩ := Qae h.gr.rf
 have c1 := h.evs
 rw [ep] at c1
 have hn := Qqw V.ev g.evs w h.gr.ev
 rw [ep] at hn
 have HNUM := Qa hn
 have H := Qa h
 have HP := Qa hp
 have HRf := Qa hr
 generalize hbad : Qbt g = r
 have HBAD := Qa hbad
 clear hn hp hr h hbad
 go_enter Tryz.func119, Tryz.ntmps119
 go_wp2_with fail
 refine HNUM.out.mono ?_
 rintro e w1 ⟨u, rfl, hown, hB1⟩
 clear HNUM c1
 have hB := H.out.below hB1
 have c2 := hB.rfs
 rw [er] at c2
 obtain ⟨ra, rcap, rfl⟩ := Qag hown
 have HRD : Hid (w1.ownsRow w.heap.size 3 1 (.slice ra g.reads.length rcap) g.reads.length (Qaf (toI g.reads))) := hown
 have HB1 := Qa hB1
 have hrdl : g.reads.length ≤ g.evs.length := Qq2 _ _ _
 clear hown hB hB1
 rw [show Qa9 (fun e => e.k == 1) g.evs g.evs.length = g.reads from rfl]
 go_wp2_with fail
 clear c2
 go_loopg [20] g.rf.length (fun f i wr => ∃ k : Nat, i = .int .i64 ((k : Nat) : Int) ∧ k ≤ g.rf.length ∧ Hid (k + f = g.rf.length) ∧ Hid (∀ j, 0 ≤ j → j < k → (!(Qb0 g j (g.rf.getD j (0, 0)) && Qcp g (g.rf.getD j (0, 0)))) = false) ∧ Hid (Below w1.heap.size w1 wr))
 case atStart => exact ⟨0, rfl, Nat.zero_le _, Nat.zero_add _, (fun j h1 h2 => by omega), Below.refl _ _⟩
 case round =>
  obtain ⟨k, rfl, hk, HKF, HALL, HB⟩ := hrel
  have HBW : Hid (Below w.heap.size w wr) := Qaa HB1.out HB1.out.size HB.out
  have hBk := H.out.below HBW.out
  by_cases hlt : k < g.rf.length
  ·obtain ⟨s, o, rfl, hat⟩ := HRf.out oW
   have hat' := hat.below HBW.out
   obtain ⟨⟨pa, pb⟩, hx⟩ : ∃ x, g.rf[k]? = some x := ⟨_, List.getElem?_eq_getElem hlt⟩
   have x0 := hat'.fst k _ hx
   have x1 := hat'.snd k _ hx
   dsimp only at x0 x1
   have K0 : (0 : Int) ≤ (k : Int) := by omega
   have K1 : (k : Int) < (g.rf.length : Int) := by omega
   have HG : Hid (g.rf.getD k (0, 0) = (pa, pb)) := by rw [Hid, List.getD_eq_getElem?_getD, hx]; rfl
   have HBK := Qa hBk
   clear hat hat' hx hBk
   go_upto_region 5 with fail
   have hb := Blk.new wr 30 #[.int .i64 pa, .int .i64 pb]
   have HB2 : Hid (Below w1.heap.size w1 (wr.alloc (.cells #[.int .i64 pa, .int .i64 pb] 30))) := HB.out.alloc HB.out.size _
   have HBK2 := Qa (HBK.out.below (bW.alloc nW (.cells #[.int .i64 pa, .int .i64 pb] 30)))
   have HPB := Qa hb
   clear hb x0 x1 HBK
   generalize hw2 : wr.alloc (.cells #[.int .i64 pa, .int .i64 pb] 30) = w2 at *
   generalize hgp : wr.heap.size = gp at *
   clear hw2 hgp
   have y0 : w2.cell? ⟨gp, 0, none⟩ = some (.int .i64 pa) := HPB.out.cell rfl
   have y1 : w2.cell? ⟨gp, 1, none⟩ = some (.int .i64 pb) := HPB.out.cell rfl
   go_cut [45] (fun v45 wx => v45 = .bool (!(Qb0 g k (pa, pb))) ∧ Hid (Below w2.heap.size w2 wx))
   case first =>
    generalize hok : Qb0 g k (pa, pb) = ok
    have HOK := Qa hok
    clear hok
    by_cases h1 : k < g.reads.length
    ·obtain ⟨rs, rc2, e1, hrs, hrc⟩ := Qgj (Qac HRD.out HB2.out) (by simp [Qaf, toI]) oW
     injection e1 with e1 _ e3
     subst e1
     subst e3
     obtain ⟨x, hx⟩ : ∃ x, g.reads[k]? = some x := ⟨_, List.getElem?_eq_getElem h1⟩
     have z0 := hrc k (.int .i64 (x : Int)) (by simp [Qaf, toI, hx])
     have hgx : g.reads.getD k 0 = x := by rw [List.getD_eq_getElem?_getD, hx]; rfl
     have R1 : (k : Int) < (g.reads.length : Int) := by omega
     have R2 : ¬ g.reads.length ≤ k := by omega
     by_cases h2 : pb = (x : Int)
     ·subst h2
      have q1 : (((x : Int)) != (x : Int)) = false := by simp
      have hisb : ok = isB g.evs pa [2] := by
       rw [← HOK.out]
       unfold Qb0
       rw [decide_eq_true h1, hgx]
       simp
      have hBd : Below w2.heap.size w2 (w2.alloc (.cells #[.int .i64 2] 3)).drew := ((Below.refl w2.heap.size w2).alloc nW _).drew
      have hc := Qf0 b V g q pa (.slice (some ⟨w2.heap.size, 0, none⟩) 1 1) [2] (w2.alloc (.cells #[.int .i64 2] 3)).drew (HBK2.out.below hBd) ((Qkj w2 2).below bW.drew) dW
      have HBD := Qa hBd
      clear hBd
      rw [← hisb] at hc
      have HC := Qa hc
      clear hc hisb hx hgx hrc
      have HZ : Hid (∀ W, Below w2.heap.size w2 W → W.cell? ⟨gp, 0, none⟩ = some (.int .i64 pa) ∧ W.cell? ⟨gp, 1, none⟩ = some (.int .i64 ((x : Nat) : Int)) ∧ W.cell? ⟨rs, k, none⟩ = some (.int .i64 ((x : Nat) : Int))) := fun W hW => ⟨(HPB.out.of_below hW).cell rfl, (HPB.out.of_below hW).cell rfl, (hW.cell (p := ⟨rs, k, none⟩) hrs).trans z0⟩
      go_region_held3 (fun w' => w'.cell? ⟨gp, 0, none⟩ = some (.int .i64 pa) ∧ w'.cell? ⟨gp, 1, none⟩ = some (.int .i64 ((x : Nat) : Int)) ∧ w'.cell? ⟨rs, k, none⟩ = some (.int .i64 ((x : Nat) : Int))) (first | assumption | exact ⟨y0, y1, z0⟩ | exact HZ.out _ (bW.alloc nW _) | exact HZ.out _ ((bW.alloc nW _).drew) | exact HZ.out _ ((bW.drew).alloc nW _)) (first | (go_at_call 148; refine HC.out.mono ?_; rintro e w5 ⟨rfl, hB5⟩; have hB25 := Qaa HBD.out HBD.out.size hB5; have K5 := HZ.out w5 hB25))
      all_goals (go_wp2_with fail; go_meet; exact ⟨by rw [HOK.out], hB25⟩)
     ·obtain rfl : ok = false := by
       rw [← HOK.out]
       unfold Qb0
       rw [hgx]
       simp [h2]
      have q1 : ((pb : Int) != (x : Int)) = true := by simp [h2]
      clear hx hgx hrc
      go_quiet (fail)
      all_goals (go_wp2_with fail; go_meet; exact ⟨by rw [HOK.out]; rfl, Qab bW _⟩)
    ·obtain rfl : ok = false := by
      rw [← HOK.out]
      unfold Qb0
      rw [decide_eq_false h1]
      rfl
     have R2 : g.reads.length ≤ k := by omega
     go_quiet (fail)
     all_goals (go_wp2_with fail; go_meet; exact ⟨by rw [HOK.out]; rfl, Qab bW _⟩)
   case rest =>
    obtain ⟨rfl, HBC⟩ := hcut
    generalize hwb : wc = wb at *
    clear hwb
    have HBC1 : Hid (Below w1.heap.size w1 wb) := Qaa HB2.out HB2.out.size HBC.out
    have HBCW : Hid (Below w.heap.size w wb) := Qaa HB1.out HB1.out.size HBC1.out
    have HBKC := Qa (HBK2.out.below HBC.out)
    have HPC := Qa (HPB.out.of_below HBC.out)
    clear y0 y1 HBK2 HPB
    cases hok : Qb0 g k (pa, pb)
    ·have er : r = (k : Int) := by
      rw [← HBAD.out]
      unfold Qbt
      have hf := Qaz (P := fun i => !(Qb0 g i (g.rf.getD i (0, 0)) && Qcp g (g.rf.getD i (0, 0)))) (a := 0) (f := g.rf.length) (Nat.zero_le k) oW HALL.out (by rw [HG.out, hok]; rfl)
      dsimp only
      rw [hf, if_neg oW]
     subst er
     go_wp2_with fail
     go_ret
     exact ⟨rfl, HBCW.out⟩
    ·have hok' := hok
     unfold Qb0 isB at hok'
     simp only [Bool.and_eq_true, decide_eq_true_eq] at hok'
     obtain ⟨⟨ho1, ho2⟩, ⟨ho3, ho4⟩, ho5⟩ := hok'
     obtain ⟨x, hx⟩ : ∃ x, g.reads[k]? = some x := ⟨_, List.getElem?_eq_getElem ho1⟩
     have hgx : g.reads.getD k 0 = x := by rw [List.getD_eq_getElem?_getD, hx]; rfl
     rw [hgx] at ho2
     have hxl : x < g.evs.length := Qys hx
     obtain ⟨a, rfl⟩ : ∃ a : Nat, pa = (a : Int) := ⟨pa.toNat, oW⟩
     subst ho2
     have hal : a < g.evs.length := by omega
     have HOK := Qa hok
     clear hok ho1 ho3 ho4 ho5 hx hgx
     obtain ⟨s2, o2, rfl, hat⟩ := HP.out oW
     have hat' := hat.below HBCW.out
     have ha := Gr.ev_at hal
     have hb := Gr.ev_at hxl
     have a0 := hat'.c0 a _ ha
     have a1 := hat'.c1 a _ ha
     have a2 := hat'.c2 a _ ha
     have a3 := hat'.c3 a _ ha
     have a4 := hat'.c4 a _ ha
     have b0 := hat'.c0 x _ hb
     have b1 := hat'.c1 x _ hb
     have b2 := hat'.c2 x _ hb
     have b3 := hat'.c3 x _ hb
     have b4 := hat'.c4 x _ hb
     have A0 : (0 : Int) ≤ (a : Int) := by omega
     have A1 : (a : Int) < (g.evs.length : Int) := by omega
     have X0 : (0 : Int) ≤ (x : Int) := by omega
     have X1 : (x : Int) < (g.evs.length : Int) := by omega
     have c1 := HBKC.out.evs
     rw [ep] at c1
     have p0 : wb.cell? ⟨gp, 0, none⟩ = some (.int .i64 (a : Int)) := HPC.out.cell rfl
     have p1 : wb.cell? ⟨gp, 1, none⟩ = some (.int .i64 (x : Int)) := HPC.out.cell rfl
     clear hat hat' ha hb
     have HB4 : Hid (Qcp g ((a : Int), (x : Int)) = (decide ((g.ev a).l = (g.ev x).l) && decide ((g.ev a).v = (g.ev x).v))) := by rw [Hid, Qcp]; simp
     generalize g.ev a = ea at *
     generalize g.ev x = ex at *
     obtain ⟨t1, k1, l1, v1, m1⟩ := ea
     obtain ⟨t2, k2, l2, v2, m2⟩ := ex
     dsimp only at a0 a1 a2 a3 a4 b0 b1 b2 b3 b4 HB4
     have u1 := World.new_ne wb ⟨s2, o2 + a * 5, none⟩ a0
     have u2 := World.new_ne wb ⟨gp, 0, none⟩ p0
     have u3 := World.new_ne wb ⟨b, 1, none⟩ c1
     dsimp only at u1 u2 u3
     have u4 : s2 < wb.heap.size := World.block_lt_of_cell? wb ⟨s2, o2 + a * 5, none⟩ a0
     have u5 : gp < wb.heap.size := World.block_lt_of_cell? wb ⟨gp, 0, none⟩ p0
     have u6 : b < wb.heap.size := World.block_lt_of_cell? wb ⟨b, 1, none⟩ c1
     have u7 : wb.heap.size + 1 ≠ s2 := by omega
     have u8 : wb.heap.size + 1 ≠ gp := by omega
     have u9 : wb.heap.size + 1 ≠ b := by omega
     have HBL : Hid (∀ o o' : Obj, Below wb.heap.size wb ((wb.alloc o).alloc o').drew) := fun o o' => (((Below.refl wb.heap.size wb).alloc nW o).alloc sW o').drew
     go_upto_region 7 with fail
     go_cut [6, 7] (fun v6 v7 wx => ∃ g6 g7, v6 = pv g6 ∧ v7 = pv g7 ∧ Hid (Blk wx g6 34 #[.int .i64 t1, .int .i64 k1, .int .i64 l1, .int .u64 v1, .int .i64 m1]) ∧ Hid (Blk wx g7 34 #[.int .i64 t2, .int .i64 k2, .int .i64 l2, .int .u64 v2, .int .i64 m2]) ∧ Hid (Below wb.heap.size wb wx))
     case first =>
      go_region_held3 (fun w' => (w'.cell? ⟨b, 1, none⟩ = some (.slice (some ⟨s2, o2, none⟩) g.evs.length cap) ∧ w'.cell? ⟨gp, 0, none⟩ = some (.int .i64 ((a : Nat) : Int)) ∧ w'.cell? ⟨gp, 1, none⟩ = some (.int .i64 ((x : Nat) : Int)) ∧ w'.cell? ⟨s2, o2 + a * 5, none⟩ = some (.int .i64 t1) ∧ w'.cell? ⟨s2, o2 + a * 5 + 1, none⟩ = some (.int .i64 k1) ∧ w'.cell? ⟨s2, o2 + a * 5 + 2, none⟩ = some (.int .i64 l1) ∧ w'.cell? ⟨s2, o2 + a * 5 + 3, none⟩ = some (.int .u64 v1) ∧ w'.cell? ⟨s2, o2 + a * 5 + 4, none⟩ = some (.int .i64 m1) ∧ w'.cell? ⟨s2, o2 + x * 5, none⟩ = some (.int .i64 t2) ∧ w'.cell? ⟨s2, o2 + x * 5 + 1, none⟩ = some (.int .i64 k2) ∧ w'.cell? ⟨s2, o2 + x * 5 + 2, none⟩ = some (.int .i64 l2) ∧ w'.cell? ⟨s2, o2 + x * 5 + 3, none⟩ = some (.int .u64 v2) ∧ w'.cell? ⟨s2, o2 + x * 5 + 4, none⟩ = some (.int .i64 m2))) (first | assumption | exact ⟨c1, p0, p1, a0, a1, a2, a3, a4, b0, b1, b2, b3, b4⟩ | go_keep) (fail)
      all_goals (go_wp2_with fail; go_meet; first | exact ⟨wb.heap.size, wb.heap.size + 1, rfl, rfl, (Blk.new wb _ _).alloc _, Blk.new2 wb _ _ _, HBL.out _ _⟩ | exact ⟨wb.heap.size + 1, wb.heap.size, rfl, rfl, Blk.new2 wb _ _ _, (Blk.new wb _ _).alloc _, HBL.out _ _⟩)
     case rest =>
      obtain ⟨g6, g7, rfl, rfl, HE6, HE7, HBX⟩ := hcut
      have HBXW : Hid (Below w.heap.size w wc) := Qaa HBCW.out HBCW.out.size HBX.out
      have HBX1 : Hid (Below w1.heap.size w1 wc) := Qaa HBC1.out HBC1.out.size HBX.out
      clear a0 a1 a2 a3 a4 b0 b1 b2 b3 b4 c1 p0 p1 u1 u2 u3 u4 u5 u6 u7 u8 u9
      have e1 : wc.cell? ⟨g6, 2, none⟩ = some (.int .i64 l1) := HE6.out.cell rfl
      have e2 : wc.cell? ⟨g6, 3, none⟩ = some (.int .u64 v1) := HE6.out.cell rfl
      have e3 : wc.cell? ⟨g7, 2, none⟩ = some (.int .i64 l2) := HE7.out.cell rfl
      have e4 : wc.cell? ⟨g7, 3, none⟩ = some (.int .u64 v2) := HE7.out.cell rfl
      have HBADK : Hid (Qcp g (((a : Nat) : Int), ((x : Nat) : Int)) = false → r = ((k : Nat) : Int)) := fun h4 => by
       rw [← HBAD.out]
       unfold Qbt
       have hf := Qaz (P := fun i => !(Qb0 g i (g.rf.getD i (0, 0)) && Qcp g (g.rf.getD i (0, 0)))) (a := 0) (f := g.rf.length) (Nat.zero_le k) oW HALL.out (by rw [HG.out, HOK.out, h4]; rfl)
       dsimp only
       rw [hf, if_neg oW]
      by_cases hl : l1 = l2
      ·subst hl
       by_cases hv : v1 = v2
       ·subst hv
        have HOKB : Hid (Qcp g ((a : Int), (x : Int)) = true) := by rw [Hid, HB4.out]; simp
        go_wp2_with fail
        go_roundg (g.rf.length - (k + 1))
        case measure => have := HKF.out; omega
        case rel =>
         refine ⟨k + 1, by go_num, oW, by have := HKF.out; rw [Hid]; omega, fun j h1 h2 => ?_, HBX1.out⟩
         by_cases e : j = k
         ·subst e
          rw [HG.out, HOK.out, HOKB.out]
          rfl
         ·exact HALL.out j h1 oW
       ·obtain rfl := HBADK.out (by rw [HB4.out]; simp [hv])
        have q1 : ((v1 : Int) != v2) = true := by simp [hv]
        go_wp2_with fail
        go_ret
        exact ⟨rfl, HBXW.out⟩
      ·obtain rfl := HBADK.out (by rw [HB4.out]; simp [hl])
       have q1 : ((l1 : Int) != l2) = true := by simp [hl]
       go_wp2_with fail
       go_ret
       exact ⟨rfl, HBXW.out⟩
  ·obtain rfl : k = g.rf.length := by omega
   have c2 := hBk.rfs
   rw [er] at c2
   have HNO : Hid (Qak (fun i => !(Qb0 g i (g.rf.getD i (0, 0)) && Qcp g (g.rf.getD i (0, 0)))) 0 g.rf.length = -1) := Qai (fun j h1 h2 => HALL.out j h1 oW)
   clear hBk
   by_cases hs : g.rf.length < g.reads.length
   ·obtain rfl : r = (g.rf.length : Int) := by
     rw [← HBAD.out]
     unfold Qbt
     dsimp only
     rw [HNO.out, if_pos rfl, if_pos hs]
    go_wp2_with fail
    go_ret
    exact ⟨rfl, HBW.out⟩
   ·obtain rfl : r = -1 := by
     rw [← HBAD.out]
     unfold Qbt
     dsimp only
     rw [HNO.out, if_pos rfl, if_neg hs]
    go_wp2_with fail
    go_ret
    exact ⟨rfl, HBW.out⟩
def Qhw (a b : Int) : Int := if a < b then -1 else if b < a then 1 else 0
theorem Qid (a : Int) (w : World) : Calls Tryz.prog 183 #[.int .i64 a] w fun e w' => e = .returned (.bool false) ∧ w' = w := by
 have q1 : ((a : Int) != a) = false := by simp
 go_enter Tryz.func183, Tryz.ntmps183
 go_wp2_with fail
 go_ret
 exact ⟨rfl, rfl⟩
theorem Qlt (a b : Int) (w : World) : Calls Tryz.prog 179 #[.int .i64 a, .int .i64 b] w fun e w' => e = .returned (.int .i64 (Qhw a b)) ∧ w' = w := by
 have h1 := Qid a w
 have h2 := Qid b w
 generalize hr : Qhw a b = r
 have HR := Qa hr
 clear hr
 have H1 := Qa h1
 have H2 := Qa h2
 clear h1 h2
 go_enter Tryz.func179, Tryz.ntmps179
 go_wp2_with fail
 refine H1.out.mono ?_
 rintro e w1 ⟨rfl, hw⟩
 obtain rfl : w = w1 := hw.symm
 go_wp2_with fail
 refine H2.out.mono ?_
 rintro e w1 ⟨rfl, hw⟩
 obtain rfl : w = w1 := hw.symm
 by_cases hab : a < b
 ·obtain rfl : r = -1 := by rw [← HR.out]; simp [Qhw, hab]
  go_wp2_with fail
  go_ret
  exact ⟨rfl, rfl⟩
 ·by_cases hba : b < a
  ·obtain rfl : r = 1 := by rw [← HR.out]; simp [Qhw, hab, hba]
   go_wp2_with fail
   go_ret
   exact ⟨rfl, rfl⟩
  ·obtain rfl : r = 0 := by rw [← HR.out]; simp [Qhw, hab, hba]
   go_wp2_with fail
   go_ret
   exact ⟨rfl, rfl⟩
def orI (x y : Int) : Int := if x = 0 then y else x
theorem Qr2 (g : Nat) (x y : Int) (w : World) (hg : Blk w g 3 #[.int .i64 x, .int .i64 y]) :
  Calls Tryz.prog 178 #[.slice (some ⟨g, 0, none⟩) 2 2] w fun e w' => e = .returned (.int .i64 (orI x y)) ∧ Below w.heap.size w w' := by
 have HG := Qa hg
 generalize hr : orI x y = r
 have HR := Qa hr
 clear hr hg
 go_enter Tryz.func178, Tryz.ntmps178
 go_wp2_with fail
 go_loopg [8] 2 (fun f i wr => ∃ k : Nat, i = .int .i64 ((k : Nat) : Int) ∧ k ≤ 2 ∧ Hid (k + f = 2) ∧ Hid (1 ≤ k → x = 0) ∧ Hid (2 ≤ k → y = 0) ∧ Hid (Below w.heap.size w wr))
 case atStart => exact ⟨0, rfl, oW, rfl, (fun h => by omega), (fun h => by omega), Below.refl _ _⟩
 case round =>
  obtain ⟨k, rfl, hk, HKF, HX, HY, HB⟩ := hrel
  have hgb := HG.out.of_below HB.out
  have z0 : wr.cell? ⟨g, 0, none⟩ = some (.int .i64 x) := hgb.cell rfl
  have z1 : wr.cell? ⟨g, 1, none⟩ = some (.int .i64 y) := hgb.cell rfl
  clear hgb
  obtain hk' | hk' | hk' : k = 0 ∨ k = 1 ∨ k = 2 := by omega
  ·subst hk'
   by_cases e : x = 0
   ·have HE := Qa e
    subst e
    go_wp2_with fail
    go_roundg 1
    case measure => have := HKF.out; omega
    case rel => exact ⟨1, by go_num, oW, rfl, (fun _ => HE.out), (fun h => by omega), HB.out⟩
   ·obtain rfl : r = x := by rw [← HR.out]; simp [orI, e]
    have q1 : ((r : Int) != 0) = true := by simp [e]
    go_wp2_with fail
    go_ret
    exact ⟨rfl, HB.out⟩
  ·subst hk'
   obtain rfl : r = y := by rw [← HR.out, HX.out oW]; rfl
   by_cases e : r = 0
   ·have HE := Qa e
    subst e
    go_wp2_with fail
    go_roundg 0
    case measure => have := HKF.out; omega
    case rel => exact ⟨2, by go_num, oW, rfl, (fun _ => HX.out oW), (fun _ => HE.out), HB.out⟩
   ·have q1 : ((r : Int) != 0) = true := by simp [e]
    go_wp2_with fail
    go_ret
    exact ⟨rfl, HB.out⟩
  ·subst hk'
   obtain rfl : r = 0 := by rw [← HR.out, HX.out oW, HY.out oW]; rfl
   go_wp2_with fail
   go_ret
   exact ⟨rfl, HB.out⟩
def Qf8 (p q : Int × Int) : Int := orI (Qhw p.1 q.1) (Qhw p.2 q.2)
theorem Qmm (a b c d : Int) (w : World) :
  Calls Tryz.prog 169 #[.agg #[.int .i64 a, .int .i64 b], .agg #[.int .i64 c, .int .i64 d]] w fun e w' => e = .returned (.int .i64 (Qf8 (a, b) (c, d))) ∧ Below w.heap.size w w' := by
 obtain ⟨W, hW⟩ : ∃ W, W = (w.alloc (.cells #[.int .i64 a, .int .i64 b] 30)).alloc (.cells #[.int .i64 c, .int .i64 d] 30) := ⟨_, rfl⟩
 have h2 : Blk W w.heap.size 30 #[.int .i64 a, .int .i64 b] := by rw [hW]; exact (Blk.new w _ _).alloc _
 have h3 : Blk W (w.heap.size + 1) 30 #[.int .i64 c, .int .i64 d] := by rw [hW]; exact Blk.new2 w _ _ _
 have HBW : Hid (Below w.heap.size w W) := by rw [Hid, hW]; exact (bW.alloc nW _).alloc sW _
 have HW := Qa hW
 go_enter Tryz.func169, Tryz.ntmps169
 go_upto_region 1 with fail
 rw [← hW]
 clear hW
 have y0 : W.cell? ⟨w.heap.size, 0, none⟩ = some (.int .i64 a) := h2.cell rfl
 have y1 : W.cell? ⟨w.heap.size, 1, none⟩ = some (.int .i64 b) := h2.cell rfl
 have y2 : W.cell? ⟨w.heap.size + 1, 0, none⟩ = some (.int .i64 c) := h3.cell rfl
 have y3 : W.cell? ⟨w.heap.size + 1, 1, none⟩ = some (.int .i64 d) := h3.cell rfl
 have HZ : Hid (∀ W', Below W.heap.size W W' → W'.cell? ⟨w.heap.size, 0, none⟩ = some (.int .i64 a) ∧ W'.cell? ⟨w.heap.size, 1, none⟩ = some (.int .i64 b) ∧ W'.cell? ⟨w.heap.size + 1, 0, none⟩ = some (.int .i64 c) ∧ W'.cell? ⟨w.heap.size + 1, 1, none⟩ = some (.int .i64 d)) := fun W' hB => ⟨(h2.of_below hB).cell rfl, (h2.of_below hB).cell rfl, (h3.of_below hB).cell rfl, (h3.of_below hB).cell rfl⟩
 have HOR : Hid (∀ x y, Calls Tryz.prog 178 #[.slice (some ⟨W.heap.size, 0, none⟩) 2 2] (W.alloc (.cells #[.int .i64 x, .int .i64 y] 3)).drew fun e w' => e = .returned (.int .i64 (orI x y)) ∧ Below W.heap.size W w') := fun x y => by
  have hBd : Below W.heap.size W (W.alloc (.cells #[.int .i64 x, .int .i64 y] 3)).drew := ((Below.refl W.heap.size W).alloc nW _).drew
  refine (Qr2 W.heap.size x y _ (show Blk (W.alloc (.cells #[.int .i64 x, .int .i64 y] 3)).drew W.heap.size 3 _ from Blk.new W _ _)).mono ?_
  rintro e w' ⟨rfl, hB⟩
  exact ⟨rfl, Qaa hBd hBd.size hB⟩
 clear h2 h3
 go_region_held3 (fun w' => w'.cell? ⟨w.heap.size, 0, none⟩ = some (.int .i64 a) ∧ w'.cell? ⟨w.heap.size, 1, none⟩ = some (.int .i64 b) ∧ w'.cell? ⟨w.heap.size + 1, 0, none⟩ = some (.int .i64 c) ∧ w'.cell? ⟨w.heap.size + 1, 1, none⟩ = some (.int .i64 d)) (first | assumption | exact ⟨y0, y1, y2, y3⟩ | exact HZ.out _ (bW.alloc nW _) | exact HZ.out _ ((bW.alloc nW _).drew)) (first | (go_at_call 179; refine (Qlt _ _ _).mono ?_; rintro e w' ⟨rfl, rfl⟩) | (go_at_call 178; refine (HOR.out _ _).mono ?_; rintro e w5 ⟨rfl, hB5⟩; have K5 := HZ.out w5 hB5))
 all_goals
  go_wp2_with fail
  go_ret
  exact ⟨rfl, Qaa HBW.out HBW.out.size hB5⟩
def Qd9 (q : Bool) (l : List (Int × Int)) (i : Nat) : Bool := q && (decide (i = 0) || decide (Qf8 (l.getD (i - 1) (0, 0)) (l.getD i (0, 0)) < 0))
def Qe (evs : List Ev) (p : Int × Int) (ks : List Int) : Bool := isB evs p.1 [1] && isB evs p.2 ks && poB evs p.1.toNat p.2.toNat
def Qcf (evs : List Ev) (q : Bool) (l : List (Int × Int)) (ks : List Int) : Int := Qak (fun i => !(Qd9 q l i && Qe evs (l.getD i (0, 0)) ks)) 0 l.length
theorem Qbw {evs : List Ev} {i : Int} {ks : List Int} (h : isB evs i ks = true) : ∃ a : Nat, i = (a : Int) ∧ a < evs.length := by
 unfold isB at h
 simp only [Bool.and_eq_true, decide_eq_true_eq] at h
 exact ⟨i.toNat, oW, oW⟩
theorem Qch {j : Nat} (h : j < 9223372036854775808) : IntKind.i64.wrap ((j : Nat) : Int) = ((j : Nat) : Int) := by
 have e : (j : Int) % 18446744073709551616 = (j : Int) := Int.emod_eq_of_lt oW oW
 have e2 : ¬ (9223372036854775808 : Int) ≤ (j : Int) := by omega
 simp [IntKind.wrap, IntKind.bits, IntKind.signed, e, e2]
theorem Qhx (b : Nat) (V : GrV) (g : Gr) (q : Bool) (v vk : Value) (l : List (Int × Int)) (ks : List Int) (w : World) (h : BkR w b V g q) (hv : PArg w v l) (hk : IntsR w vk ks) (hm : ks.length ≤ 9223372036854775807) :
  Calls Tryz.prog 151 #[pv b, v, vk] w fun r w' => r = .returned (.int .i64 (Qcf g.evs q l ks)) ∧ Below w.heap.size w w' := by
 obtain ⟨pl, cl, rfl, hp, hll⟩ := Qae hv
 obtain ⟨pk, ck, ek, _⟩ := Qfn hk
 obtain ⟨pe, ce, ee, _, _⟩ := h.gr.ev
 subst ek
 have HPL := Qa hp
 have H := Qa h
 have HK := Qa hk
 generalize hbad : Qcf g.evs q l ks = r
 have HBAD := Qa hbad
 clear hp hv h hk hbad
 go_enter Tryz.func151, Tryz.ntmps151
 go_wp2_with fail
 go_loopg [11] l.length (fun f i wr => ∃ k : Nat, i = .int .i64 ((k : Nat) : Int) ∧ k ≤ l.length ∧ Hid (k + f = l.length) ∧ Hid (∀ j, 0 ≤ j → j < k → (!(Qd9 q l j && Qe g.evs (l.getD j (0, 0)) ks)) = false) ∧ Hid (Below w.heap.size w wr))
 case atStart => exact ⟨0, rfl, Nat.zero_le _, Nat.zero_add _, (fun j h1 h2 => by omega), Below.refl _ _⟩
 case round =>
  obtain ⟨k, rfl, hk, HKF, HALL, HB⟩ := hrel
  by_cases hlt : k < l.length
  ·obtain ⟨s, o, rfl, hat⟩ := HPL.out oW
   have hat' := hat.below HB.out
   obtain ⟨⟨pa, pb⟩, hx⟩ : ∃ x, l[k]? = some x := ⟨_, List.getElem?_eq_getElem hlt⟩
   have x0 := hat'.fst k _ hx
   have x1 := hat'.snd k _ hx
   dsimp only at x0 x1
   have K0 : (0 : Int) ≤ (k : Int) := by omega
   have K1 : (k : Int) < (l.length : Int) := by omega
   have HG : Hid (l.getD k (0, 0) = (pa, pb)) := by rw [Hid, List.getD_eq_getElem?_getD, hx]; rfl
   have HAT := Qa hat
   have HBADK : Hid ((Qd9 q l k && Qe g.evs (pa, pb) ks) = false → r = ((k : Nat) : Int)) := fun h4 => by
    rw [← HBAD.out]
    exact Qaz (Nat.zero_le k) oW HALL.out (by rw [HG.out, h4]; rfl)
   clear hat hat' hx
   go_upto_region 4 with fail
   have hb := Blk.new wr 30 #[.int .i64 pa, .int .i64 pb]
   have HB2 : Hid (Below w.heap.size w (wr.alloc (.cells #[.int .i64 pa, .int .i64 pb] 30))) := HB.out.alloc HB.out.size _
   have HPB := Qa hb
   clear hb x0 x1
   generalize hw2 : wr.alloc (.cells #[.int .i64 pa, .int .i64 pb] 30) = w2 at *
   generalize hgp : wr.heap.size = gp at *
   clear hw2 hgp
   have y0 : w2.cell? ⟨gp, 0, none⟩ = some (.int .i64 pa) := HPB.out.cell rfl
   have y1 : w2.cell? ⟨gp, 1, none⟩ = some (.int .i64 pb) := HPB.out.cell rfl
   have HBK2 := Qa (H.out.below HB2.out)
   have c8 := HBK2.out.wds
   go_cut [34] (fun v34 wx => v34 = .bool (!(Qd9 q l k)) ∧ Hid (Below w2.heap.size w2 wx))
   case first =>
    cases q
    ·go_quiet (fail)
     all_goals (go_wp2_with fail; go_meet; exact ⟨rfl, Qab bW _⟩)
    ·by_cases hk0 : k = 0
     ·subst hk0
      go_quiet (fail)
      all_goals (go_wp2_with fail; go_meet; exact ⟨rfl, Qab bW _⟩)
     ·obtain ⟨j, HJJ⟩ : ∃ j : Nat, Hid (k = j + 1) := ⟨k - 1, by rw [Hid]; omega⟩
      have hj1 : (k : Int) - 1 = (j : Int) := by have := HJJ.out; omega
      have hjl : j < l.length := by have := HJJ.out; omega
      obtain ⟨⟨qa, qb⟩, hx⟩ : ∃ x, l[j]? = some x := ⟨_, List.getElem?_eq_getElem hjl⟩
      have z0 := (HAT.out.below HB2.out).fst j _ hx
      have z1 := (HAT.out.below HB2.out).snd j _ hx
      dsimp only at z0 z1
      have J0 : (0 : Int) ≤ (j : Int) := by omega
      have J1 : (j : Int) < (l.length : Int) := by omega
      have KP : 0 < k := by omega
      have KP1 : (1 : Int) ≤ (k : Int) := by omega
      have jw : IntKind.i64.wrap (j : Int) = (j : Int) := Qch (by have := HJJ.out; omega)
      have jd : decide ((0 : Int) < (k : Int)) = true := decide_eq_true oW
      have KP0 : (0 : Int) < (k : Int) := by omega
      have HOK : Hid (Qd9 true l k = decide (Qf8 (qa, qb) (pa, pb) < 0)) := by
       rw [Hid, Qd9, HG.out, show k - 1 = j by have := HJJ.out; omega, List.getD_eq_getElem?_getD, hx]
       simp [hk0]
      have hc := fun W => Qmm qa qb pa pb W
      generalize hcm : Qf8 (qa, qb) (pa, pb) = cm at hc HOK
      have HC := Qa hc
      have hs : s < w2.heap.size := (HAT.out.below HB2.out).lt
      have HZ : Hid (∀ W, Below w2.heap.size w2 W → W.cell? ⟨b, 8, none⟩ = some (.bool true) ∧ W.cell? ⟨gp, 0, none⟩ = some (.int .i64 pa) ∧ W.cell? ⟨gp, 1, none⟩ = some (.int .i64 pb) ∧ W.cell? ⟨s, o + j * 2, none⟩ = some (.int .i64 qa) ∧ W.cell? ⟨s, o + j * 2 + 1, none⟩ = some (.int .i64 qb)) := fun W hW => ⟨(HBK2.out.below hW).wds, (HPB.out.of_below hW).cell rfl, (HPB.out.of_below hW).cell rfl, (hW.cell (p := ⟨s, o + j * 2, none⟩) hs).trans z0, (hW.cell (p := ⟨s, o + j * 2 + 1, none⟩) hs).trans z1⟩
      clear hc hx hcm
      by_cases hneg : cm < 0
      ·have HO2 : Hid (Qd9 true l k = true) := by rw [Hid, HOK.out, decide_eq_true hneg]
       go_region_held3 (fun w' => w'.cell? ⟨b, 8, none⟩ = some (.bool true) ∧ w'.cell? ⟨gp, 0, none⟩ = some (.int .i64 pa) ∧ w'.cell? ⟨gp, 1, none⟩ = some (.int .i64 pb) ∧ w'.cell? ⟨s, o + j * 2, none⟩ = some (.int .i64 qa) ∧ w'.cell? ⟨s, o + j * 2 + 1, none⟩ = some (.int .i64 qb)) (first | assumption | exact ⟨c8, y0, y1, z0, z1⟩) (first | (go_at_call 169; refine (HC.out _).mono ?_; rintro e w5 ⟨rfl, hB5⟩; have hB25 : Below w2.heap.size w2 w5 := (bW.drew).trans hB5; have K5 := HZ.out w5 hB25))
       all_goals (go_wp2_with fail; go_meet; exact ⟨by rw [HO2.out, decide_eq_false (show ¬ 0 ≤ cm by omega)]; rfl, hB25⟩)
      ·have HO2 : Hid (Qd9 true l k = false) := by rw [Hid, HOK.out, decide_eq_false hneg]
       have hneg' : 0 ≤ cm := by omega
       go_region_held3 (fun w' => w'.cell? ⟨b, 8, none⟩ = some (.bool true) ∧ w'.cell? ⟨gp, 0, none⟩ = some (.int .i64 pa) ∧ w'.cell? ⟨gp, 1, none⟩ = some (.int .i64 pb) ∧ w'.cell? ⟨s, o + j * 2, none⟩ = some (.int .i64 qa) ∧ w'.cell? ⟨s, o + j * 2 + 1, none⟩ = some (.int .i64 qb)) (first | assumption | exact ⟨c8, y0, y1, z0, z1⟩) (first | (go_at_call 169; refine (HC.out _).mono ?_; rintro e w5 ⟨rfl, hB5⟩; have hB25 : Below w2.heap.size w2 w5 := (bW.drew).trans hB5; have K5 := HZ.out w5 hB25))
       all_goals (go_wp2_with fail; go_meet; exact ⟨by rw [HO2.out]; simp [hneg'], hB25⟩)
   case rest =>
    obtain ⟨rfl, HBC⟩ := hcut
    generalize hwb : wc = wb at *
    clear hwb
    have HBCW : Hid (Below w.heap.size w wb) := Qaa HB2.out HB2.out.size HBC.out
    have HBKC := Qa (HBK2.out.below HBC.out)
    have HPC := Qa (HPB.out.of_below HBC.out)
    clear y0 y1 c8 HBK2 HPB
    cases hok : Qd9 q l k
    ·obtain rfl := HBADK.out (by rw [hok]; rfl)
     go_wp2_with fail
     go_ret
     exact ⟨rfl, HBCW.out⟩
    ·have HOKA := Qa hok
     clear hok
     have c1 := HBKC.out.evs
     rw [ee] at c1
     have p0 : wb.cell? ⟨gp, 0, none⟩ = some (.int .i64 pa) := HPC.out.cell rfl
     have p1 : wb.cell? ⟨gp, 1, none⟩ = some (.int .i64 pb) := HPC.out.cell rfl
     have HZ : Hid (∀ W, Below wb.heap.size wb W → W.cell? ⟨b, 1, none⟩ = some (.slice pe g.evs.length ce) ∧ W.cell? ⟨gp, 0, none⟩ = some (.int .i64 pa) ∧ W.cell? ⟨gp, 1, none⟩ = some (.int .i64 pb)) := fun W hW => ⟨by rw [← ee]; exact (HBKC.out.below hW).evs, (HPC.out.of_below hW).cell rfl, (HPC.out.of_below hW).cell rfl⟩
     have hBd : Below wb.heap.size wb (wb.alloc (.cells #[.int .i64 1] 3)).drew := ((Below.refl wb.heap.size wb).alloc nW _).drew
     have hc1 := Qf0 b V g q pa (.slice (some ⟨wb.heap.size, 0, none⟩) 1 1) [1] (wb.alloc (.cells #[.int .i64 1] 3)).drew (HBKC.out.below hBd) ((Qkj wb 1).below bW.drew) dW
     have hc2 := fun W (hW : Below wb.heap.size wb W) => Qf0 b V g q pb (.slice pk ks.length ck) ks W (HBKC.out.below hW) (HK.out.below (Qaa HBCW.out HBCW.out.size hW)) hm
     have HBD := Qa hBd
     clear hBd
     go_upto_region 6 with fail
     go_cut [62] (fun v62 wx => v62 = .bool (!(Qe g.evs (pa, pb) ks)) ∧ Hid (Below wb.heap.size wb wx))
     case first =>
      cases hi1 : isB g.evs pa [1]
      ·have HO : Hid (Qe g.evs (pa, pb) ks = false) := by rw [Hid, Qe, hi1]; rfl
       rw [hi1] at hc1
       have HC1 := Qa hc1
       clear hc1 hc2 hi1
       refine wp_region_held_drew (S := (fun w' => w'.cell? ⟨b, 1, none⟩ = some (.slice pe g.evs.length ce) ∧ w'.cell? ⟨gp, 0, none⟩ = some (.int .i64 pa) ∧ w'.cell? ⟨gp, 1, none⟩ = some (.int .i64 pb))) kW ⟨c1, p0, p1⟩ (fun hHeld => ?_)
       refine tzW 0 rfl ?_
       refine tzW 1 rfl ?_
       refine tzW 2 rfl ?_
       refine wpAnyH_ready (rs := [3]) kW sW ?_
       refine AllReadyH.cons rfl (fun K hK => ?_) AllReadyH.nil
       simp only [z1, z2, z3]
       go_simp
       refine hK.out _ _ (HZ.out _ ((bW.alloc nW _).drew)) (fun hHeld => ?_)
       clear hK K
       try simp only [zz]
       refine wpAnyH_ready (rs := [4]) kW sW ?_
       refine AllReadyH.cons rfl (fun K hK => ?_) AllReadyH.nil
       simp only [z1, z2, z3]
       go_simp
       refine HC1.out.mono ?_
       rintro e w5 ⟨rfl, hB5⟩
       have hX5 := Qaa HBD.out HBD.out.size hB5
       refine hK.out _ _ (HZ.out w5 hX5) (fun hHeld => ?_)
       clear hK K
       try simp only [zz]
       refine tzW 5 rfl ?_
       refine tzW 6 rfl ?_
       refine tvW 7 rfl ?_
       refine tvW 8 rfl ?_
       refine tvW 9 rfl ?_
       refine tvW 10 rfl ?_
       refine tvW 11 rfl ?_
       refine tvW 12 rfl ?_
       refine tzW 13 rfl ?_
       refine tzW 14 rfl ?_
       refine tvW 15 rfl ?_
       refine tvW 16 rfl ?_
       refine tvW 17 rfl ?_
       refine tvW 18 rfl ?_
       refine tvW 19 rfl ?_
       refine tvW 20 rfl ?_
       refine tvW 21 rfl ?_
       refine tvW 22 rfl ?_
       refine tvW 23 rfl ?_
       refine tvW 24 rfl ?_
       refine tvW 25 rfl ?_
       refine tzW 26 rfl ?_
       refine wpAnyH_done kW ?_ _
       go_wp2_with fail
       go_meet
       exact ⟨by rw [HO.out]; rfl, hX5⟩
      ·cases hi2 : isB g.evs pb ks
       ·have HO : Hid (Qe g.evs (pa, pb) ks = false) := by rw [Hid, Qe, hi1, hi2]; rfl
        rw [hi1] at hc1
        rw [hi2] at hc2
        have HC1 := Qa hc1
        have HC2 := Qa hc2
        clear hc1 hc2 hi1 hi2
        refine wp_region_held_drew (S := (fun w' => w'.cell? ⟨b, 1, none⟩ = some (.slice pe g.evs.length ce) ∧ w'.cell? ⟨gp, 0, none⟩ = some (.int .i64 pa) ∧ w'.cell? ⟨gp, 1, none⟩ = some (.int .i64 pb))) kW ⟨c1, p0, p1⟩ (fun hHeld => ?_)
        refine tzW 0 rfl ?_
        refine tzW 1 rfl ?_
        refine tzW 2 rfl ?_
        refine wpAnyH_ready (rs := [3]) kW sW ?_
        refine AllReadyH.cons rfl (fun K hK => ?_) AllReadyH.nil
        simp only [z1, z2, z3]
        go_simp
        refine hK.out _ _ (HZ.out _ ((bW.alloc nW _).drew)) (fun hHeld => ?_)
        clear hK K
        try simp only [zz]
        refine wpAnyH_ready (rs := [4]) kW sW ?_
        refine AllReadyH.cons rfl (fun K hK => ?_) AllReadyH.nil
        simp only [z1, z2, z3]
        go_simp
        refine HC1.out.mono ?_
        rintro e w5 ⟨rfl, hB5⟩
        have hX5 := Qaa HBD.out HBD.out.size hB5
        refine hK.out _ _ (HZ.out w5 hX5) (fun hHeld => ?_)
        clear hK K
        try simp only [zz]
        refine tzW 5 rfl ?_
        refine tzW 6 rfl ?_
        refine tzW 7 rfl ?_
        refine tzW 8 rfl ?_
        refine tzW 9 rfl ?_
        refine tzW 10 rfl ?_
        refine wpAnyH_ready (rs := [11]) kW sW ?_
        refine AllReadyH.cons rfl (fun K hK => ?_) AllReadyH.nil
        simp only [z1, z2, z3]
        go_simp
        refine (HC2.out _ hX5).mono ?_
        rintro e w6 ⟨rfl, hB6⟩
        have hX6 := Qaa hX5 hX5.size hB6
        refine hK.out _ _ (HZ.out w6 hX6) (fun hHeld => ?_)
        clear hK K
        try simp only [zz]
        refine tzW 12 rfl ?_
        refine tzW 13 rfl ?_
        refine tzW 14 rfl ?_
        refine tvW 15 rfl ?_
        refine tvW 16 rfl ?_
        refine tvW 17 rfl ?_
        refine tvW 18 rfl ?_
        refine tvW 19 rfl ?_
        refine tvW 20 rfl ?_
        refine tvW 21 rfl ?_
        refine tvW 22 rfl ?_
        refine tvW 23 rfl ?_
        refine tvW 24 rfl ?_
        refine tvW 25 rfl ?_
        refine tzW 26 rfl ?_
        refine wpAnyH_done kW ?_ _
        go_wp2_with fail
        go_meet
        exact ⟨by rw [HO.out]; rfl, hX6⟩
       ·obtain ⟨a, ea, hal⟩ := Qbw hi1
        obtain ⟨x, ex, hxl⟩ := Qbw hi2
        have hc3 := fun W (hW : Below wb.heap.size wb W) => Qh0 V.ev g.evs a x W (HBKC.out.gr.ev.below hW) hal hxl
        rw [ee] at hc3
        have HO : Hid (Qe g.evs (pa, pb) ks = poB g.evs a x) := by rw [Hid, Qe, hi1, hi2, ea, ex]; simp
        rw [hi1] at hc1
        rw [hi2] at hc2
        have HC1 := Qa hc1
        have HC2 := Qa hc2
        have HC3 := Qa hc3
        clear hc1 hc2 hc3 hi1 hi2
        rw [← ea, ← ex] at HC3
        clear ea ex
        generalize poB g.evs a x = po at *
        go_region_held3 (fun w' => w'.cell? ⟨b, 1, none⟩ = some (.slice pe g.evs.length ce) ∧ w'.cell? ⟨gp, 0, none⟩ = some (.int .i64 pa) ∧ w'.cell? ⟨gp, 1, none⟩ = some (.int .i64 pb)) (first | assumption | exact ⟨c1, p0, p1⟩ | exact HZ.out _ (bW.alloc nW _) | exact HZ.out _ ((bW.alloc nW _).drew)) (first | (go_at_call 148; with_reducible show Calls _ _ #[pv b, .int .i64 pa, .slice (some ⟨wb.heap.size, 0, none⟩) 1 1] _ _; refine HC1.out.mono ?_; rintro e w5 ⟨rfl, hB5⟩; have hX5 := Qaa HBD.out HBD.out.size hB5; have K5 := HZ.out w5 hX5) | (go_at_call 148; refine (HC2.out _ hX5).mono ?_; rintro e w6 ⟨rfl, hB6⟩; have hX6 := Qaa hX5 hX5.size hB6; have K6 := HZ.out w6 hX6) | (go_at_call 128; refine (HC3.out _ hX6).mono ?_; rintro e w7 ⟨rfl, hB7⟩; have hX7 := Qaa hX6 hX6.size hB7; have K7 := HZ.out w7 hX7))
        all_goals (go_wp2_with fail; go_meet; exact ⟨by rw [HO.out], hX7⟩)
     case rest =>
      obtain ⟨rfl, HBX⟩ := hcut
      have HBXW : Hid (Below w.heap.size w wc) := Qaa HBCW.out HBCW.out.size HBX.out
      clear c1 p0 p1 hc1 hc2
      cases hob : Qe g.evs (pa, pb) ks
      ·obtain rfl := HBADK.out (by rw [hob]; simp)
       go_wp2_with fail
       go_ret
       exact ⟨rfl, HBXW.out⟩
      ·have HOKB := Qa hob
       clear hob
       go_wp2_with fail
       go_roundg (l.length - (k + 1))
       case measure => have := HKF.out; omega
       case rel =>
        refine ⟨k + 1, by go_num, oW, by have := HKF.out; rw [Hid]; omega, fun j h1 h2 => ?_, HBXW.out⟩
        by_cases e : j = k
        ·subst e
         rw [HG.out, HOKA.out, HOKB.out]
         rfl
        ·exact HALL.out j h1 oW
  ·obtain rfl : k = l.length := by omega
   obtain rfl : r = -1 := by
    rw [← HBAD.out]
    exact Qai (fun j h1 h2 => HALL.out j h1 oW)
   go_wp2_with fail
   go_ret
   exact ⟨rfl, HB.out⟩
theorem QCa (w : World) (a : Int) : IntsR (w.alloc (.cells #[.int .i64 a] 3)) (.slice (some ⟨w.heap.size, 0, none⟩) 1 1) [a] := by
 have hk := Blk.new w 3 #[.int .i64 a]
 refine .inr ⟨w.heap.size, 0, 1, rfl, hk.lt, fun i x hx => ?_⟩
 match i with
 | 0 => simp at hx; subst hx; exact hk.cell rfl
 | i + 1 => simp at hx
theorem QCb (w : World) (a b : Int) : IntsR (w.alloc (.cells #[.int .i64 a, .int .i64 b] 3)) (.slice (some ⟨w.heap.size, 0, none⟩) 2 2) [a, b] := by
 have hk := Blk.new w 3 #[.int .i64 a, .int .i64 b]
 refine .inr ⟨w.heap.size, 0, 2, rfl, hk.lt, fun i x hx => ?_⟩
 match i with
 | 0 => simp at hx; subst hx; exact hk.cell rfl
 | 1 => simp at hx; subst hx; exact hk.cell rfl
 | i + 2 => simp at hx
theorem QCc (w : World) (a b c : Int) : IntsR (w.alloc (.cells #[.int .i64 a, .int .i64 b, .int .i64 c] 3)) (.slice (some ⟨w.heap.size, 0, none⟩) 3 3) [a, b, c] := by
 have hk := Blk.new w 3 #[.int .i64 a, .int .i64 b, .int .i64 c]
 refine .inr ⟨w.heap.size, 0, 3, rfl, hk.lt, fun i x hx => ?_⟩
 match i with
 | 0 => simp at hx; subst hx; exact hk.cell rfl
 | 1 => simp at hx; subst hx; exact hk.cell rfl
 | 2 => simp at hx; subst hx; exact hk.cell rfl
 | i + 3 => simp at hx
theorem Qlu (b : Nat) (V : GrV) (g : Gr) (q : Bool) (w : World) (h : BkR w b V g q) :
  Calls Tryz.prog 122 #[pv b] w fun r w' => r = .returned (.int .i64 (Qcf g.evs q g.addr [1, 2])) ∧ Below w.heap.size w w' := by
 obtain ⟨pr, cr, er, _, _⟩ := Qae h.gr.addr
 have c1 := h.addrs
 rw [er] at c1
 have hBA := (Below.refl w.heap.size w).alloc nW (.cells #[.int .i64 1, .int .i64 2] 3)
 have hc := Qhx b V g q V.addr _ g.addr [1, 2] _ (h.below hBA) (h.gr.addr.below hBA) (QCb w 1 2) dW
 rw [er] at hc
 generalize Qcf g.evs q g.addr [1, 2] = r at *
 have HC := Qa hc
 clear hc h
 go_enter Tryz.func122, Tryz.ntmps122
 go_wp2_with fail
 refine HC.out.mono ?_
 rintro e w2 ⟨rfl, hB2⟩
 go_wp2_with fail
 go_ret
 exact ⟨rfl, hBA.trans (hB2.mono hBA.size)⟩
theorem Qoy (b : Nat) (V : GrV) (g : Gr) (q : Bool) (w : World) (h : BkR w b V g q) :
  Calls Tryz.prog 123 #[pv b] w fun r w' => r = .returned (.int .i64 (Qcf g.evs q g.dat [2])) ∧ Below w.heap.size w w' := by
 obtain ⟨pr, cr, er, _, _⟩ := Qae h.gr.dat
 have c1 := h.dats
 rw [er] at c1
 have hBA := (Below.refl w.heap.size w).alloc nW (.cells #[.int .i64 2] 3)
 have hc := Qhx b V g q V.dat _ g.dat [2] _ (h.below hBA) (h.gr.dat.below hBA) (QCa w 2) dW
 rw [er] at hc
 generalize Qcf g.evs q g.dat [2] = r at *
 have HC := Qa hc
 clear hc h
 go_enter Tryz.func123, Tryz.ntmps123
 go_wp2_with fail
 refine HC.out.mono ?_
 rintro e w2 ⟨rfl, hB2⟩
 go_wp2_with fail
 go_ret
 exact ⟨rfl, hBA.trans (hB2.mono hBA.size)⟩
theorem Qmn (b : Nat) (V : GrV) (g : Gr) (q : Bool) (w : World) (h : BkR w b V g q) :
  Calls Tryz.prog 124 #[pv b] w fun r w' => r = .returned (.int .i64 (Qcf g.evs q g.ctrl [1, 2, 3])) ∧ Below w.heap.size w w' := by
 obtain ⟨pr, cr, er, _, _⟩ := Qae h.gr.ctrl
 have c1 := h.ctrls
 rw [er] at c1
 have hBA := (Below.refl w.heap.size w).alloc nW (.cells #[.int .i64 1, .int .i64 2, .int .i64 3] 3)
 have hc := Qhx b V g q V.ctrl _ g.ctrl [1, 2, 3] _ (h.below hBA) (h.gr.ctrl.below hBA) (QCc w 1 2 3) dW
 rw [er] at hc
 generalize Qcf g.evs q g.ctrl [1, 2, 3] = r at *
 have HC := Qa hc
 clear hc h
 go_enter Tryz.func124, Tryz.ntmps124
 go_wp2_with fail
 refine HC.out.mono ?_
 rintro e w2 ⟨rfl, hB2⟩
 go_wp2_with fail
 go_ret
 exact ⟨rfl, hBA.trans (hB2.mono hBA.size)⟩
theorem QAm (e : Ev) (c : Nat) (f : Ev) (w : World) (hc : Blk w c 34 #[.int .i64 f.t, .int .i64 f.k, .int .i64 f.l, .int .u64 f.v, .int .i64 f.m]) :
  Calls Tryz.prog 168 #[.agg #[.int .i64 e.t, .int .i64 e.k, .int .i64 e.l, .int .u64 e.v, .int .i64 e.m], pv c] w fun r w' => r = .returned (.bool (e.t == f.t)) ∧ Below w.heap.size w w' := by
 obtain ⟨t, k, l, v, m⟩ := e
 obtain ⟨ft, fk, fl, fv, fm⟩ := f
 dsimp only at hc ⊢
 have hb := Blk.new w 34 #[.int .i64 t, .int .i64 k, .int .i64 l, .int .u64 v, .int .i64 m]
 have e1 : (w.alloc (.cells #[.int .i64 t, .int .i64 k, .int .i64 l, .int .u64 v, .int .i64 m] 34)).cell? ⟨w.heap.size, 0, none⟩ = some (.int .i64 t) := hb.cell rfl
 have c1 : (w.alloc (.cells #[.int .i64 t, .int .i64 k, .int .i64 l, .int .u64 v, .int .i64 m] 34)).cell? ⟨c, 0, none⟩ = some (.int .i64 ft) := (hc.alloc _).cell rfl
 clear hb hc
 generalize hr : (t == ft) = r
 go_enter Tryz.func168, Tryz.ntmps168
 go_wp2_with fail
 go_ret
 exact ⟨by first | rw [hr] | rfl, bW.alloc nW _⟩
def EvR (w : World) (v : Value) (l : List Ev) : Prop := ∃ p cap, v = .slice p l.length cap ∧ (0 < l.length → ∃ s o, p = some ⟨s, o, none⟩ ∧ EvsAt w s o l)
def Qqx (P : Ev → Bool) (l : List Ev) : Int := Qak (fun i => P (l.getD i Ev.zero)) 0 l.length
theorem Qd (P : Nat → Bool) : ∀ (f a : Nat), (Qak P a f = -1 ∧ ∀ j, a ≤ j → j < a + f → P j = false) ∨ ∃ i : Nat, Qak P a f = (i : Int) ∧ a ≤ i ∧ i < a + f ∧ P i = true
 | 0, a => .inl ⟨rfl, fun j h1 h2 => by omega⟩
 | f + 1, a => by
  rw [Qak]
  by_cases h : P a = true
  ·rw [if_pos h]
   exact .inr ⟨a, rfl, Nat.le_refl _, oW, h⟩
  ·rw [if_neg h]
   rcases Qd P f (a + 1) with ⟨e, h2⟩ | ⟨i, e, h1, h2, h3⟩
   ·refine .inl ⟨e, fun j h3 h4 => ?_⟩
    by_cases e2 : j = a
    ·subst e2; exact Bool.eq_false_iff.2 h
    ·exact h2 j oW oW
   ·exact .inr ⟨i, e, oW, oW, h3⟩
theorem Qyt (P : Ev → Bool) (l : List Ev) : decide (0 ≤ Qqx P l) = l.any P := by
 unfold Qqx
 rcases Qd (fun i => P (l.getD i Ev.zero)) l.length 0 with ⟨e, hn⟩ | ⟨i, e, _, hi, hp⟩
 ·rw [e]
  have : l.any P = false := by
   rw [List.any_eq_false]
   intro x hx hp
   obtain ⟨i, hi, rfl⟩ := List.mem_iff_getElem.1 hx
   have := hn i (Nat.zero_le _) oW
   rw [List.getD_eq_getElem?_getD, List.getElem?_eq_getElem hi] at this
   rw [Option.getD_some, hp] at this
   cases this
  rw [this]
  rfl
 ·rw [e]
  have hi : i < l.length := by omega
  have : l.any P = true := by
   rw [List.any_eq_true]
   exact ⟨l.getD i Ev.zero, by rw [List.getD_eq_getElem?_getD, List.getElem?_eq_getElem hi]; exact List.getElem_mem _, hp⟩
  rw [this]
  simp
theorem Qj3 (v : Value) (l : List Ev) (c : Nat) (f : Ev) (w : World) (h : EvR w v l) (hl : l.length ≤ 256) (hc : Blk w c 34 #[.int .i64 f.t, .int .i64 f.k, .int .i64 f.l, .int .u64 f.v, .int .i64 f.m]) :
  Calls Tryz.prog 177 #[v, .func (.func 168) #[] #[pv c]] w fun e w' => e = .returned (.int .i64 (Qqx (fun e => e.t == f.t) l)) ∧ Below w.heap.size w w' := by
 obtain ⟨p, cap, rfl, hp⟩ := h
 have HP := Qa hp
 have HCB := Qa hc
 generalize hr : Qqx (fun e => e.t == f.t) l = r
 have HR := Qa hr
 clear hp hr hc
 go_enter Tryz.func177, Tryz.ntmps177
 go_wp2_with fail
 go_loopg [8] l.length (fun f0 i wr => ∃ k : Nat, i = .int .i64 ((k : Nat) : Int) ∧ k ≤ l.length ∧ Hid (k + f0 = l.length) ∧ Hid (∀ j, 0 ≤ j → j < k → ((l.getD j Ev.zero).t == f.t) = false) ∧ Hid (Below w.heap.size w wr))
 case atStart => exact ⟨0, rfl, Nat.zero_le _, Nat.zero_add _, (fun j h1 h2 => by omega), Below.refl _ _⟩
 case round =>
  obtain ⟨k, rfl, hk, HKF, HALL, HB⟩ := hrel
  by_cases hlt : k < l.length
  ·obtain ⟨s, o, rfl, hat⟩ := HP.out oW
   have hat' := hat.below HB.out
   have he := Qbp hlt
   have x0 := hat'.c0 k _ he
   have x1 := hat'.c1 k _ he
   have x2 := hat'.c2 k _ he
   have x3 := hat'.c3 k _ he
   have x4 := hat'.c4 k _ he
   have K0 : (0 : Int) ≤ (k : Int) := by omega
   have K1 : (k : Int) < (l.length : Int) := by omega
   have hcc := QAm (l.getD k Ev.zero) c f wr (HCB.out.of_below HB.out)
   clear hat hat' he
   generalize hge : l.getD k Ev.zero = ek at *
   have HGE := Qa hge
   clear hge
   cases hq : (ek.t == f.t)
   ·rw [hq] at hcc
    have HC := Qa hcc
    have HQ := Qa hq
    clear hcc hq
    go_wp2_with fail
    refine HC.out.mono ?_
    rintro e w2 ⟨rfl, hB2⟩
    go_wp2_with fail
    go_roundg (l.length - (k + 1))
    case measure => have := HKF.out; omega
    case rel =>
     refine ⟨k + 1, by go_num, oW, by have := HKF.out; rw [Hid]; omega, fun j h1 h2 => ?_, Qaa HB.out HB.out.size hB2⟩
     by_cases e : j = k
     ·subst e; rw [HGE.out]; exact HQ.out
     ·exact HALL.out j h1 oW
   ·obtain rfl : r = (k : Int) := by
     rw [← HR.out]
     exact Qaz (Nat.zero_le _) oW HALL.out (by rw [HGE.out]; exact hq)
    rw [hq] at hcc
    have HC := Qa hcc
    clear hcc hq
    go_wp2_with fail
    refine HC.out.mono ?_
    rintro e w2 ⟨rfl, hB2⟩
    go_wp2_with fail
    go_ret
    exact ⟨rfl, Qaa HB.out HB.out.size hB2⟩
  ·obtain rfl : k = l.length := by omega
   obtain rfl : r = -1 := by
    rw [← HR.out]
    exact Qai (fun j h1 h2 => HALL.out j h1 oW)
   go_wp2_with fail
   go_ret
   exact ⟨rfl, HB.out⟩
theorem Qie (v : Value) (l : List Ev) (c : Nat) (f : Ev) (w : World) (h : EvR w v l) (hl : l.length ≤ 256) (hc : Blk w c 34 #[.int .i64 f.t, .int .i64 f.k, .int .i64 f.l, .int .u64 f.v, .int .i64 f.m]) :
  Calls Tryz.prog 167 #[v, .func (.func 168) #[] #[pv c]] w fun e w' => e = .returned (.bool (l.any (fun e => e.t == f.t))) ∧ Below w.heap.size w w' := by
 have hcc := Qj3 v l c f w h hl hc
 obtain ⟨p, cap, rfl, _⟩ := h
 rw [← Qyt]
 generalize Qqx (fun e => e.t == f.t) l = r at *
 go_enter Tryz.func167, Tryz.ntmps167
 go_wp2_with fail
 refine hcc.mono ?_
 rintro e w1 ⟨rfl, hB⟩
 clear hcc
 go_wp2_with fail
 go_ret
 exact ⟨rfl, hB⟩
def Qfm (evs : List Ev) (p : Int × Int) : Bool := isB evs p.1 [1] && isB evs p.2 [2] && poB evs p.1.toNat p.2.toNat
def Qda (evs : List Ev) (a x : Nat) : List Ev := (evs.take x).drop (a + 1)
def okU (evs : List Ev) (p : Int × Int) : Bool := Qfm evs p && (decide ((evs.getD p.1.toNat Ev.zero).l = (evs.getD p.2.toNat Ev.zero).l) && !((Qda evs p.1.toNat p.2.toNat).any (fun e => e.t == (evs.getD p.1.toNat Ev.zero).t)))
theorem EvsAt.gap {w : World} {s o a x : Nat} {l : List Ev} (h : EvsAt w s o l) : EvsAt w s (o + (a + 1) * 5) (Qda l a x) := by
 have key : ∀ (i : Nat) (e : Ev), (Qda l a x)[i]? = some e → l[a + 1 + i]? = some e := fun i e he => by
  unfold Qda at he
  rw [List.getElem?_drop, List.getElem?_take] at he
  split at he
  ·exact he
  ·cases he
 have off : ∀ i : Nat, o + (a + 1) * 5 + i * 5 = o + (a + 1 + i) * 5 := fun i => by omega
 exact ⟨h.lt, fun i e he => by rw [off]; exact h.c0 _ e (key i e he), fun i e he => by rw [off]; exact h.c1 _ e (key i e he), fun i e he => by rw [off]; exact h.c2 _ e (key i e he), fun i e he => by rw [off]; exact h.c3 _ e (key i e he), fun i e he => by rw [off]; exact h.c4 _ e (key i e he)⟩
theorem Qhy {l : List Ev} {a x : Nat} (hx : x ≤ l.length) : (Qda l a x).length = x - (a + 1) := by
 unfold Qda
 rw [List.length_drop, List.length_take]
 omega
theorem Qmo (b : Nat) (V : GrV) (g : Gr) (q : Bool) (pa pb : Int) (w : World) (h : BkR w b V g q) (hl256 : g.evs.length ≤ 256) :
  Calls Tryz.prog 150 #[pv b, .agg #[.int .i64 pa, .int .i64 pb]] w fun r w' => r = .returned (.bool (okU g.evs (pa, pb))) ∧ Below w.heap.size w w' := by
 obtain ⟨pe, ce, ee, hpe, _, hce⟩ := h.gr.ev
 have HPE := Qa hpe
 clear hpe
 generalize hr : okU g.evs (pa, pb) = r
 have HR := Qa hr
 clear hr
 go_enter Tryz.func150, Tryz.ntmps150
 go_upto_region 1 with fail
 have hbb := Blk.new w 30 #[.int .i64 pa, .int .i64 pb]
 have HBB : Hid (Below w.heap.size w (w.alloc (.cells #[.int .i64 pa, .int .i64 pb] 30))) := bW.alloc nW _
 have HBKC := Qa (h.below HBB.out)
 have HPC := Qa hbb
 clear hbb h
 generalize hwb : w.alloc (.cells #[.int .i64 pa, .int .i64 pb] 30) = wb at *
 generalize hgp : w.heap.size = gp at *
 clear hwb
 have HGP := Qa hgp
 clear hgp
 have c1 := HBKC.out.evs
 rw [ee] at c1
 have p0 : wb.cell? ⟨gp, 0, none⟩ = some (.int .i64 pa) := HPC.out.cell rfl
 have p1 : wb.cell? ⟨gp, 1, none⟩ = some (.int .i64 pb) := HPC.out.cell rfl
 have HZ : Hid (∀ W, Below wb.heap.size wb W → W.cell? ⟨b, 1, none⟩ = some (.slice pe g.evs.length ce) ∧ W.cell? ⟨gp, 0, none⟩ = some (.int .i64 pa) ∧ W.cell? ⟨gp, 1, none⟩ = some (.int .i64 pb)) := fun W hW => ⟨by rw [← ee]; exact (HBKC.out.below hW).evs, (HPC.out.of_below hW).cell rfl, (HPC.out.of_below hW).cell rfl⟩
 have hBd : Below wb.heap.size wb (wb.alloc (.cells #[.int .i64 1] 3)).drew := ((Below.refl wb.heap.size wb).alloc nW _).drew
 have hc1 := Qf0 b V g q pa (.slice (some ⟨wb.heap.size, 0, none⟩) 1 1) [1] (wb.alloc (.cells #[.int .i64 1] 3)).drew (HBKC.out.below hBd) ((Qkj wb 1).below bW.drew) dW
 have hc2 := fun W (hW : Below wb.heap.size wb W) => Qf0 b V g q pb (.slice (some ⟨W.heap.size, 0, none⟩) 1 1) [2] (W.alloc (.cells #[.int .i64 2] 3)) (HBKC.out.below (hW.alloc hW.size _)) (Qkj W 2) dW
 have HBD := Qa hBd
 clear hBd
 go_cut [33] (fun v33 wx => v33 = .bool (!(Qfm g.evs (pa, pb))) ∧ Hid (Below wb.heap.size wb wx))
 case first =>
  cases hi1 : isB g.evs pa [1]
  ·have HO : Hid (Qfm g.evs (pa, pb) = false) := by rw [Hid, Qfm, hi1]; rfl
   rw [hi1] at hc1
   have HC1 := Qa hc1
   clear hc1 hc2 hi1
   refine wp_region_held_drew (S := (fun w' => w'.cell? ⟨b, 1, none⟩ = some (.slice pe g.evs.length ce) ∧ w'.cell? ⟨gp, 0, none⟩ = some (.int .i64 pa) ∧ w'.cell? ⟨gp, 1, none⟩ = some (.int .i64 pb))) kW ⟨c1, p0, p1⟩ (fun hHeld => ?_)
   refine tzW 0 rfl ?_
   refine tzW 1 rfl ?_
   refine tzW 2 rfl ?_
   refine wpAnyH_ready (rs := [3]) kW sW ?_
   refine AllReadyH.cons rfl (fun K hK => ?_) AllReadyH.nil
   simp only [z1, z2, z3]
   go_simp
   refine hK.out _ _ (HZ.out _ ((bW.alloc nW _).drew)) (fun hHeld => ?_)
   clear hK K
   try simp only [zz]
   refine wpAnyH_ready (rs := [4]) kW sW ?_
   refine AllReadyH.cons rfl (fun K hK => ?_) AllReadyH.nil
   simp only [z1, z2, z3]
   go_simp
   refine HC1.out.mono ?_
   rintro e w5 ⟨rfl, hB5⟩
   have hX5 := Qaa HBD.out HBD.out.size hB5
   refine hK.out _ _ (HZ.out w5 hX5) (fun hHeld => ?_)
   clear hK K
   try simp only [zz]
   refine tzW 5 rfl ?_
   refine tzW 6 rfl ?_
   refine tvW 7 rfl ?_
   refine tvW 8 rfl ?_
   refine tvW 9 rfl ?_
   refine tvW 10 rfl ?_
   refine tvW 11 rfl ?_
   refine tvW 12 rfl ?_
   refine tzW 13 rfl ?_
   refine tzW 14 rfl ?_
   refine tvW 15 rfl ?_
   refine tvW 16 rfl ?_
   refine tvW 17 rfl ?_
   refine tvW 18 rfl ?_
   refine tvW 19 rfl ?_
   refine tvW 20 rfl ?_
   refine tvW 21 rfl ?_
   refine tvW 22 rfl ?_
   refine tvW 23 rfl ?_
   refine tvW 24 rfl ?_
   refine tvW 25 rfl ?_
   refine tzW 26 rfl ?_
   refine wpAnyH_done kW ?_ _
   go_wp2_with fail
   go_meet
   exact ⟨by rw [HO.out]; rfl, hX5⟩
  ·cases hi2 : isB g.evs pb [2]
   ·have HO : Hid (Qfm g.evs (pa, pb) = false) := by rw [Hid, Qfm, hi1, hi2]; rfl
    rw [hi1] at hc1
    rw [hi2] at hc2
    have HC1 := Qa hc1
    have HC2 := Qa hc2
    clear hc1 hc2 hi1 hi2
    refine wp_region_held_drew (S := (fun w' => w'.cell? ⟨b, 1, none⟩ = some (.slice pe g.evs.length ce) ∧ w'.cell? ⟨gp, 0, none⟩ = some (.int .i64 pa) ∧ w'.cell? ⟨gp, 1, none⟩ = some (.int .i64 pb))) kW ⟨c1, p0, p1⟩ (fun hHeld => ?_)
    refine tzW 0 rfl ?_
    refine tzW 1 rfl ?_
    refine tzW 2 rfl ?_
    refine wpAnyH_ready (rs := [3]) kW sW ?_
    refine AllReadyH.cons rfl (fun K hK => ?_) AllReadyH.nil
    simp only [z1, z2, z3]
    go_simp
    refine hK.out _ _ (HZ.out _ ((bW.alloc nW _).drew)) (fun hHeld => ?_)
    clear hK K
    try simp only [zz]
    refine wpAnyH_ready (rs := [4]) kW sW ?_
    refine AllReadyH.cons rfl (fun K hK => ?_) AllReadyH.nil
    simp only [z1, z2, z3]
    go_simp
    refine HC1.out.mono ?_
    rintro e w5 ⟨rfl, hB5⟩
    have hX5 := Qaa HBD.out HBD.out.size hB5
    refine hK.out _ _ (HZ.out w5 hX5) (fun hHeld => ?_)
    clear hK K
    try simp only [zz]
    refine tzW 5 rfl ?_
    refine tzW 6 rfl ?_
    refine tzW 7 rfl ?_
    refine tzW 8 rfl ?_
    refine tzW 9 rfl ?_
    refine wpAnyH_ready (rs := [10]) kW sW ?_
    refine AllReadyH.cons rfl (fun K hK => ?_) AllReadyH.nil
    simp only [z1, z2, z3]
    go_simp
    refine hK.out _ _ (HZ.out _ (hX5.alloc hX5.size _)) (fun hHeld => ?_)
    clear hK K
    try simp only [zz]
    refine wpAnyH_ready (rs := [11]) kW sW ?_
    refine AllReadyH.cons rfl (fun K hK => ?_) AllReadyH.nil
    simp only [z1, z2, z3]
    go_simp
    refine (HC2.out w5 hX5).mono ?_
    rintro e w6 ⟨rfl, hB6⟩
    have hX6 := Qaa (hX5.alloc hX5.size (.cells #[.int .i64 2] 3)) (hX5.alloc hX5.size (.cells #[.int .i64 2] 3)).size hB6
    refine hK.out _ _ (HZ.out w6 hX6) (fun hHeld => ?_)
    clear hK K
    try simp only [zz]
    refine tzW 12 rfl ?_
    refine tzW 13 rfl ?_
    refine tzW 14 rfl ?_
    refine tvW 15 rfl ?_
    refine tvW 16 rfl ?_
    refine tvW 17 rfl ?_
    refine tvW 18 rfl ?_
    refine tvW 19 rfl ?_
    refine tvW 20 rfl ?_
    refine tvW 21 rfl ?_
    refine tvW 22 rfl ?_
    refine tvW 23 rfl ?_
    refine tvW 24 rfl ?_
    refine tvW 25 rfl ?_
    refine tzW 26 rfl ?_
    refine wpAnyH_done kW ?_ _
    go_wp2_with fail
    go_meet
    exact ⟨by rw [HO.out]; rfl, hX6⟩
   ·obtain ⟨a, ea, hal⟩ := Qbw hi1
    obtain ⟨x, ex, hxl⟩ := Qbw hi2
    have hc3 := fun W (hW : Below wb.heap.size wb W) => Qh0 V.ev g.evs a x W (HBKC.out.gr.ev.below hW) hal hxl
    rw [ee] at hc3
    have HO : Hid (Qfm g.evs (pa, pb) = poB g.evs a x) := by rw [Hid, Qfm, hi1, hi2, ea, ex]; simp
    rw [hi1] at hc1
    rw [hi2] at hc2
    have HC1 := Qa hc1
    have HC2 := Qa hc2
    have HC3 := Qa hc3
    clear hc1 hc2 hc3 hi1 hi2
    rw [← ea, ← ex] at HC3
    clear ea ex
    generalize poB g.evs a x = po at *
    refine wp_region_held_drew (S := (fun w' => w'.cell? ⟨b, 1, none⟩ = some (.slice pe g.evs.length ce) ∧ w'.cell? ⟨gp, 0, none⟩ = some (.int .i64 pa) ∧ w'.cell? ⟨gp, 1, none⟩ = some (.int .i64 pb))) kW ⟨c1, p0, p1⟩ (fun hHeld => ?_)
    refine tzW 0 rfl ?_
    refine tzW 1 rfl ?_
    refine tzW 2 rfl ?_
    refine wpAnyH_ready (rs := [3]) kW sW ?_
    refine AllReadyH.cons rfl (fun K hK => ?_) AllReadyH.nil
    simp only [z1, z2, z3]
    go_simp
    refine hK.out _ _ (HZ.out _ ((bW.alloc nW _).drew)) (fun hHeld => ?_)
    clear hK K
    try simp only [zz]
    refine wpAnyH_ready (rs := [4]) kW sW ?_
    refine AllReadyH.cons rfl (fun K hK => ?_) AllReadyH.nil
    simp only [z1, z2, z3]
    go_simp
    refine HC1.out.mono ?_
    rintro e w5 ⟨rfl, hB5⟩
    have hX5 := Qaa HBD.out HBD.out.size hB5
    refine hK.out _ _ (HZ.out w5 hX5) (fun hHeld => ?_)
    clear hK K
    try simp only [zz]
    refine tzW 5 rfl ?_
    refine tzW 6 rfl ?_
    refine tzW 7 rfl ?_
    refine tzW 8 rfl ?_
    refine tzW 9 rfl ?_
    refine wpAnyH_ready (rs := [10]) kW sW ?_
    refine AllReadyH.cons rfl (fun K hK => ?_) AllReadyH.nil
    simp only [z1, z2, z3]
    go_simp
    refine hK.out _ _ (HZ.out _ (hX5.alloc hX5.size _)) (fun hHeld => ?_)
    clear hK K
    try simp only [zz]
    refine wpAnyH_ready (rs := [11]) kW sW ?_
    refine AllReadyH.cons rfl (fun K hK => ?_) AllReadyH.nil
    simp only [z1, z2, z3]
    go_simp
    refine (HC2.out w5 hX5).mono ?_
    rintro e w6 ⟨rfl, hB6⟩
    have hX6 := Qaa (hX5.alloc hX5.size (.cells #[.int .i64 2] 3)) (hX5.alloc hX5.size (.cells #[.int .i64 2] 3)).size hB6
    refine hK.out _ _ (HZ.out w6 hX6) (fun hHeld => ?_)
    clear hK K
    try simp only [zz]
    refine tzW 12 rfl ?_
    refine tzW 13 rfl ?_
    refine tzW 14 rfl ?_
    refine tzW 15 rfl ?_
    refine tzW 16 rfl ?_
    refine tzW 17 rfl ?_
    refine tzW 18 rfl ?_
    refine tzW 19 rfl ?_
    refine tzW 20 rfl ?_
    refine tzW 21 rfl ?_
    refine tzW 22 rfl ?_
    refine tzW 23 rfl ?_
    refine wpAnyH_ready (rs := [24]) kW sW ?_
    refine AllReadyH.cons rfl (fun K hK => ?_) AllReadyH.nil
    simp only [z1, z2, z3]
    go_simp
    refine (HC3.out w6 hX6).mono ?_
    rintro e w7 ⟨rfl, hB7⟩
    have hX7 := Qaa hX6 hX6.size hB7
    refine hK.out _ _ (HZ.out w7 hX7) (fun hHeld => ?_)
    clear hK K
    try simp only [zz]
    refine tzW 25 rfl ?_
    refine tzW 26 rfl ?_
    refine wpAnyH_done kW ?_ _
    go_wp2_with fail
    go_meet
    exact ⟨by rw [HO.out], hX7⟩
 case rest =>
  obtain ⟨rfl, HBC⟩ := hcut
  generalize hwd : wc = wd at *
  clear hwd c1 p0 p1 hc1 hc2
  have HBWD : Hid (Below gp w wd) := HBB.out.trans (HBC.out.mono (by rw [← HGP.out]; exact HBB.out.size))
  cases hok : Qfm g.evs (pa, pb)
  ·obtain rfl : r = false := by rw [← HR.out, okU, hok]; rfl
   go_wp2_with fail
   go_ret
   exact ⟨rfl, by first | exact HBWD.out | (rw [HGP.out]; exact HBWD.out)⟩
  ·have hok' := hok
   unfold Qfm at hok'
   simp only [Bool.and_eq_true] at hok'
   obtain ⟨⟨hi1, hi2⟩, hpo⟩ := hok'
   obtain ⟨a, ea, hal⟩ := Qbw hi1
   obtain ⟨x, ex, hxl⟩ := Qbw hi2
   subst ea
   subst ex
   rw [Int.toNat_natCast, Int.toNat_natCast] at hpo
   have hax : a < x := by
    unfold poB at hpo
    simp only [Bool.and_eq_true, decide_eq_true_eq] at hpo
    exact hpo.1.1
   have HOU : Hid (r = (decide ((g.evs.getD a Ev.zero).l = (g.evs.getD x Ev.zero).l) && !((Qda g.evs a x).any (fun e => e.t == (g.evs.getD a Ev.zero).t)))) := by
    rw [Hid, ← HR.out, okU, hok, Bool.true_and, Int.toNat_natCast, Int.toNat_natCast]
   clear hok hi1 hi2 hpo
   obtain ⟨s, o, rfl, hat⟩ := HPE.out oW
   have hat' := hat.below (show Below w.heap.size w wd by rw [HGP.out]; exact HBWD.out)
   have ha := Qbp hal
   have hx := Qbp hxl
   have a0 := hat'.c0 a _ ha
   have a1 := hat'.c1 a _ ha
   have a2 := hat'.c2 a _ ha
   have a3 := hat'.c3 a _ ha
   have a4 := hat'.c4 a _ ha
   have HAT := Qa hat'
   have HX2 : Hid (∀ W, Below wd.heap.size wd W → W.cell? ⟨s, o + x * 5 + 2, none⟩ = some (.int .i64 (g.evs.getD x Ev.zero).l)) := fun W hW => (hat'.below hW).c2 x _ hx
   obtain ⟨c1, p0, p1⟩ := HZ.out wd HBC.out
   have A0 : (0 : Int) ≤ (a : Int) := by omega
   have A1 : (a : Int) < (g.evs.length : Int) := by omega
   have X0 : (0 : Int) ≤ (x : Int) := by omega
   have X1 : (x : Int) < (g.evs.length : Int) := by omega
   clear hat hat' ha hx
   generalize g.evs.getD a Ev.zero = ea at *
   generalize (g.evs.getD x Ev.zero).l = lx at *
   obtain ⟨t1, k1, l1, v1, m1⟩ := ea
   dsimp only at a0 a1 a2 a3 a4 HOU
   have u1 := World.new_ne wd ⟨s, o + a * 5, none⟩ a0
   have u2 := World.new_ne wd ⟨gp, 0, none⟩ p0
   have u3 := World.new_ne wd ⟨b, 1, none⟩ c1
   dsimp only at u1 u2 u3
   have HBL : Hid (∀ o' : Obj, Below wd.heap.size wd (wd.alloc o').drew) := fun o' => ((Below.refl wd.heap.size wd).alloc nW o').drew
   go_upto_region 3 with fail
   go_cut [5] (fun v5 wx => ∃ g5, v5 = pv g5 ∧ Hid (Blk wx g5 34 #[.int .i64 t1, .int .i64 k1, .int .i64 l1, .int .u64 v1, .int .i64 m1]) ∧ Hid (Below wd.heap.size wd wx))
   case first =>
    go_region_held3 (fun w' => (w'.cell? ⟨b, 1, none⟩ = some (.slice (some ⟨s, o, none⟩) g.evs.length ce) ∧ w'.cell? ⟨gp, 0, none⟩ = some (.int .i64 ((a : Nat) : Int)) ∧ w'.cell? ⟨s, o + a * 5, none⟩ = some (.int .i64 t1) ∧ w'.cell? ⟨s, o + a * 5 + 1, none⟩ = some (.int .i64 k1) ∧ w'.cell? ⟨s, o + a * 5 + 2, none⟩ = some (.int .i64 l1) ∧ w'.cell? ⟨s, o + a * 5 + 3, none⟩ = some (.int .u64 v1) ∧ w'.cell? ⟨s, o + a * 5 + 4, none⟩ = some (.int .i64 m1))) (first | assumption | exact ⟨c1, p0, a0, a1, a2, a3, a4⟩ | go_keep) (fail)
    all_goals (go_wp2_with fail; go_meet; exact ⟨wd.heap.size, rfl, Blk.new wd _ _, HBL.out _⟩)
   case rest =>
    obtain ⟨g5, rfl, HE5, HBF⟩ := hcut
    generalize hwf : wc = wf at *
    clear hwf c1 p0 p1 a0 a1 a2 a3 a4 u1 u2 u3
    have HBFB : Hid (Below wb.heap.size wb wf) := Qaa HBC.out HBC.out.size HBF.out
    have HBFW : Hid (Below gp w wf) := HBWD.out.trans (HBF.out.mono (by rw [← HGP.out]; exact (show Below w.heap.size w wd by rw [HGP.out]; exact HBWD.out).size))
    obtain ⟨c1, p0, p1⟩ := HZ.out wf HBFB.out
    have x2 := HX2.out wf HBF.out
    have e2 : wf.cell? ⟨g5, 2, none⟩ = some (.int .i64 l1) := HE5.out.cell rfl
    have hw1 : IntKind.i64.wrap ((a : Int) + 1) = (((a + 1 : Nat)) : Int) := by rw [show (a : Int) + 1 = (((a + 1 : Nat)) : Int) by omega]; exact Qch oW
    have B0 : (0 : Int) ≤ ((a + 1 : Nat) : Int) := by omega
    have B1 : ((a + 1 : Nat) : Int) ≤ (x : Int) := by omega
    have B2 : (x : Int) ≤ (ce : Int) := by omega
    go_upto_region 4 with fail
    go_quiet (fail)
    go_upto_region 5 with fail
    have HBG : Hid (Below wf.heap.size wf (wf.drewN nq)) := Qab bW _
    generalize hwg : wf.drewN nq = wg at *
    clear hwg c1 p0 p1 x2 e2 hw1 B0 B1 B2
    have HBGD : Hid (Below wd.heap.size wd wg) := Qaa HBF.out HBF.out.size HBG.out
    have HBGB : Hid (Below wb.heap.size wb wg) := Qaa HBFB.out HBFB.out.size HBG.out
    have HBGW : Hid (Below gp w wg) := HBFW.out.trans (HBG.out.mono (by rw [← HGP.out]; exact (show Below w.heap.size w wf by rw [HGP.out]; exact HBFW.out).size))
    have HE5G := Qa (HE5.out.of_below HBG.out)
    have HZ5 : Hid (∀ W, Below wg.heap.size wg W → W.cell? ⟨g5, 2, none⟩ = some (.int .i64 l1) ∧ W.cell? ⟨b, 1, none⟩ = some (.slice (some ⟨s, o, none⟩) g.evs.length ce) ∧ W.cell? ⟨gp, 1, none⟩ = some (.int .i64 ((x : Nat) : Int)) ∧ W.cell? ⟨s, o + x * 5 + 2, none⟩ = some (.int .i64 lx)) := fun W hW => ⟨(HE5G.out.of_below hW).cell rfl, (HZ.out W (Qaa HBGB.out HBGB.out.size hW)).1, (HZ.out W (Qaa HBGB.out HBGB.out.size hW)).2.2, HX2.out W (Qaa HBGD.out HBGD.out.size hW)⟩
    obtain ⟨e2, c1, p1, x2⟩ := HZ5.out wg bW
    by_cases hl : l1 = lx
    ·subst hl
     have hgl := Qhy (l := g.evs) (a := a) (x := x) oW
     have hcf := Qie (.slice (some ⟨s, o + (a + 1) * 5, none⟩) (x - (a + 1)) (ce - (a + 1))) (Qda g.evs a x) g5 ⟨t1, k1, l1, v1, m1⟩ wg.drew ⟨_, _, by rw [hgl], fun _ => ⟨s, o + (a + 1) * 5, rfl, ((HAT.out.below HBGD.out).below bW.drew).gap⟩⟩ (by rw [hgl]; omega) (HE5G.out.of_below bW.drew)
     dsimp only at hcf
     have HRA : Hid (r = !((Qda g.evs a x).any (fun e => e.t == t1))) := by rw [Hid, HOU.out]; simp
     generalize (Qda g.evs a x).any (fun e => e.t == t1) = an at *
     have HCF := Qa hcf
     clear hcf hgl
     have q1 : ((l1 : Int) == l1) = true := by simp
     go_region_held3 (fun w' => w'.cell? ⟨g5, 2, none⟩ = some (.int .i64 l1) ∧ w'.cell? ⟨b, 1, none⟩ = some (.slice (some ⟨s, o, none⟩) g.evs.length ce) ∧ w'.cell? ⟨gp, 1, none⟩ = some (.int .i64 ((x : Nat) : Int)) ∧ w'.cell? ⟨s, o + x * 5 + 2, none⟩ = some (.int .i64 l1)) (first | assumption | exact ⟨e2, c1, p1, x2⟩) (first | (go_at_call 167; refine HCF.out.mono ?_; rintro e w7 ⟨rfl, hB7⟩; have hX7 : Below wg.heap.size wg w7 := (bW.drew).trans hB7; have K7 := HZ5.out w7 hX7))
     all_goals
      go_wp2_with fail
      go_ret
      refine ⟨by rw [HRA.out]; rfl, ?_⟩
      have hf := HBGW.out.trans (hX7.mono (by rw [← HGP.out]; exact (show Below w.heap.size w wg by rw [HGP.out]; exact HBGW.out).size))
      first | exact hf | (rw [HGP.out]; exact hf)
    ·obtain rfl : r = false := by rw [HOU.out]; simp [hl]
     have q1 : ((l1 : Int) == lx) = false := by rw [beq_eq_false_iff_ne]; exact hl
     go_quiet (fail)
     go_wp2_with fail
     go_ret
     refine ⟨rfl, ?_⟩
     first | exact Qab HBGW.out _ | (rw [HGP.out]; exact Qab HBGW.out _)
def Qcz (l : List (Int × Int)) (i : Nat) : Bool := decide (i = 0) || decide ((l.getD (i - 1) (0, 0)).1 < (l.getD i (0, 0)).1)
def Qdb (g : Gr) : Int := Qak (fun i => !(Qcz g.rmw i && okU g.evs (g.rmw.getD i (0, 0)))) 0 g.rmw.length
theorem Qnl (b : Nat) (V : GrV) (g : Gr) (q : Bool) (w : World) (h : BkR w b V g q) (hl256 : g.evs.length ≤ 256) :
  Calls Tryz.prog 121 #[pv b] w fun r w' => r = .returned (.int .i64 (Qdb g)) ∧ Below w.heap.size w w' := by
 obtain ⟨pr, cr, er, hp, hll⟩ := Qae h.gr.rmw
 have c4 := h.rmws
 rw [er] at c4
 have HPL := Qa hp
 have H := Qa h
 generalize hbad : Qdb g = r
 have HBAD := Qa hbad
 clear hp h hbad
 go_enter Tryz.func121, Tryz.ntmps121
 go_wp2_with fail
 clear c4
 go_loopg [11] g.rmw.length (fun f i wr => ∃ k : Nat, i = .int .i64 ((k : Nat) : Int) ∧ k ≤ g.rmw.length ∧ Hid (k + f = g.rmw.length) ∧ Hid (∀ j, 0 ≤ j → j < k → (!(Qcz g.rmw j && okU g.evs (g.rmw.getD j (0, 0)))) = false) ∧ Hid (Below w.heap.size w wr))
 case atStart => exact ⟨0, rfl, Nat.zero_le _, Nat.zero_add _, (fun j h1 h2 => by omega), Below.refl _ _⟩
 case round =>
  obtain ⟨k, rfl, hk, HKF, HALL, HB⟩ := hrel
  by_cases hlt : k < g.rmw.length
  ·obtain ⟨s, o, rfl, hat⟩ := HPL.out oW
   have hat' := hat.below HB.out
   obtain ⟨⟨pa, pb⟩, hx⟩ : ∃ x, g.rmw[k]? = some x := ⟨_, List.getElem?_eq_getElem hlt⟩
   have x0 := hat'.fst k _ hx
   have x1 := hat'.snd k _ hx
   dsimp only at x0 x1
   have K0 : (0 : Int) ≤ (k : Int) := by omega
   have K1 : (k : Int) < (g.rmw.length : Int) := by omega
   have HG : Hid (g.rmw.getD k (0, 0) = (pa, pb)) := by rw [Hid, List.getD_eq_getElem?_getD, hx]; rfl
   have HAT := Qa hat
   have HBADK : Hid ((Qcz g.rmw k && okU g.evs (pa, pb)) = false → r = ((k : Nat) : Int)) := fun h4 => by
    rw [← HBAD.out]
    exact Qaz (Nat.zero_le k) oW HALL.out (by rw [HG.out, h4]; rfl)
   clear hat hat' hx
   go_upto_region 4 with fail
   have hb := Blk.new wr 30 #[.int .i64 pa, .int .i64 pb]
   have HB2 : Hid (Below w.heap.size w (wr.alloc (.cells #[.int .i64 pa, .int .i64 pb] 30))) := HB.out.alloc HB.out.size _
   have HPB := Qa hb
   clear hb x0 x1
   generalize hw2 : wr.alloc (.cells #[.int .i64 pa, .int .i64 pb] 30) = w2 at *
   generalize hgp : wr.heap.size = gp at *
   clear hw2 hgp
   have y0 : w2.cell? ⟨gp, 0, none⟩ = some (.int .i64 pa) := HPB.out.cell rfl
   have y1 : w2.cell? ⟨gp, 1, none⟩ = some (.int .i64 pb) := HPB.out.cell rfl
   have HBK2 := Qa (H.out.below HB2.out)
   have hc := fun W (hW : Below w2.heap.size w2 W) => Qmo b V g q pa pb W (HBK2.out.below hW) hl256
   generalize hou : okU g.evs (pa, pb) = ou at hc HBADK
   have HOU := Qa hou
   have HC := Qa hc
   clear hc hou
   go_cut [38] (fun v38 wx => v38 = .bool (!(Qcz g.rmw k && ou)) ∧ Hid (Below w2.heap.size w2 wx))
   case first =>
    by_cases hk0 : k = 0
    ·subst hk0
     have HO : Hid (Qcz g.rmw 0 = true) := by rw [Hid, Qcz]; rfl
     refine wp_region_held_drew (S := (fun w' => w'.cell? ⟨gp, 0, none⟩ = some (.int .i64 pa) ∧ w'.cell? ⟨gp, 1, none⟩ = some (.int .i64 pb))) kW ⟨y0, y1⟩ (fun hHeld => ?_)
     refine tzW 0 rfl ?_
     refine tzW 1 rfl ?_
     refine tzW 2 rfl ?_
     refine tvW 3 rfl ?_
     refine tvW 4 rfl ?_
     refine tvW 5 rfl ?_
     refine tvW 6 rfl ?_
     refine tvW 7 rfl ?_
     refine tvW 8 rfl ?_
     refine tvW 9 rfl ?_
     refine tvW 10 rfl ?_
     refine tvW 11 rfl ?_
     refine tvW 12 rfl ?_
     refine tvW 13 rfl ?_
     refine tvW 14 rfl ?_
     refine tvW 15 rfl ?_
     refine tzW 16 rfl ?_
     refine tzW 17 rfl ?_
     refine tzW 18 rfl ?_
     refine tzW 19 rfl ?_
     refine wpAnyH_ready (rs := [20]) kW sW ?_
     refine AllReadyH.cons rfl (fun K hK => ?_) AllReadyH.nil
     simp only [z1, z2, z3]
     go_simp
     refine (HC.out _ bW.drew).mono ?_
     rintro e w5 ⟨rfl, hB5⟩
     have hX5 : Below w2.heap.size w2 w5 := (bW.drew).trans hB5
     refine hK.out _ _ ⟨(HPB.out.of_below hX5).cell rfl, (HPB.out.of_below hX5).cell rfl⟩ (fun hHeld => ?_)
     clear hK K
     try simp only [zz]
     refine tzW 21 rfl ?_
     refine tzW 22 rfl ?_
     refine wpAnyH_done kW ?_ _
     go_wp2_with fail
     go_meet
     exact ⟨by rw [HO.out]; simp, hX5⟩
    ·obtain ⟨j, HJJ⟩ : ∃ j : Nat, Hid (k = j + 1) := ⟨k - 1, by rw [Hid]; omega⟩
     have hj1 : (k : Int) - 1 = (j : Int) := by have := HJJ.out; omega
     have hjl : j < g.rmw.length := by have := HJJ.out; omega
     obtain ⟨⟨qa, qb⟩, hx⟩ : ∃ x, g.rmw[j]? = some x := ⟨_, List.getElem?_eq_getElem hjl⟩
     have z0 := (HAT.out.below HB2.out).fst j _ hx
     dsimp only at z0
     have J0 : (0 : Int) ≤ (j : Int) := by omega
     have J1 : (j : Int) < (g.rmw.length : Int) := by omega
     have KP : 0 < k := by omega
     have KP1 : (1 : Int) ≤ (k : Int) := by omega
     have jw : IntKind.i64.wrap (j : Int) = (j : Int) := Qch (by have := HJJ.out; omega)
     have KP0 : (0 : Int) < (k : Int) := by omega
     have HOK : Hid (Qcz g.rmw k = decide (qa < pa)) := by
      rw [Hid, Qcz, HG.out, show k - 1 = j by have := HJJ.out; omega, List.getD_eq_getElem?_getD, hx]
      simp [hk0]
     have hs : s < w2.heap.size := (HAT.out.below HB2.out).lt
     have c4 := HBK2.out.rmws
     rw [er] at c4
     have HZ : Hid (∀ W, Below w2.heap.size w2 W → W.cell? ⟨b, 4, none⟩ = some (.slice (some ⟨s, o, none⟩) g.rmw.length cr) ∧ W.cell? ⟨gp, 0, none⟩ = some (.int .i64 pa) ∧ W.cell? ⟨gp, 1, none⟩ = some (.int .i64 pb) ∧ W.cell? ⟨s, o + j * 2, none⟩ = some (.int .i64 qa)) := fun W hW => ⟨by rw [← er]; exact (HBK2.out.below hW).rmws, (HPB.out.of_below hW).cell rfl, (HPB.out.of_below hW).cell rfl, (hW.cell (p := ⟨s, o + j * 2, none⟩) hs).trans z0⟩
     clear hx
     by_cases hle : pa ≤ qa
     ·have HO : Hid (Qcz g.rmw k = false) := by rw [Hid, HOK.out, decide_eq_false (show ¬ qa < pa by omega)]
      go_quiet (fail)
      go_wp2_with fail
      go_meet
      exact ⟨by rw [HO.out]; rfl, Qab bW _⟩
     ·have HO : Hid (Qcz g.rmw k = true) := by rw [Hid, HOK.out, decide_eq_true (show qa < pa by omega)]
      go_region_held3 (fun w' => w'.cell? ⟨b, 4, none⟩ = some (.slice (some ⟨s, o, none⟩) g.rmw.length cr) ∧ w'.cell? ⟨gp, 0, none⟩ = some (.int .i64 pa) ∧ w'.cell? ⟨gp, 1, none⟩ = some (.int .i64 pb) ∧ w'.cell? ⟨s, o + j * 2, none⟩ = some (.int .i64 qa)) (first | assumption | exact ⟨c4, y0, y1, z0⟩) (first | (go_at_call 150; refine (HC.out _ bW.drew).mono ?_; rintro e w5 ⟨rfl, hB5⟩; have hX5 : Below w2.heap.size w2 w5 := (bW.drew).trans hB5; have K5 := HZ.out w5 hX5))
      all_goals (go_wp2_with fail; go_meet; exact ⟨by rw [HO.out]; simp, hX5⟩)
   case rest =>
    obtain ⟨rfl, HBC⟩ := hcut
    have HBCW : Hid (Below w.heap.size w wc) := Qaa HB2.out HB2.out.size HBC.out
    clear y0 y1
    cases hob : (Qcz g.rmw k && ou)
    ·obtain rfl := HBADK.out hob
     go_wp2_with fail
     go_ret
     exact ⟨rfl, HBCW.out⟩
    ·have HOKB := Qa hob
     clear hob
     go_wp2_with fail
     go_roundg (g.rmw.length - (k + 1))
     case measure => have := HKF.out; omega
     case rel =>
      refine ⟨k + 1, by go_num, oW, by have := HKF.out; rw [Hid]; omega, fun j h1 h2 => ?_, HBCW.out⟩
      by_cases e : j = k
      ·subst e
       rw [HG.out, HOU.out, HOKB.out]
       rfl
      ·exact HALL.out j h1 oW
  ·obtain rfl : k = g.rmw.length := by omega
   obtain rfl : r = -1 := by
    rw [← HBAD.out]
    exact Qai (fun j h1 h2 => HALL.out j h1 oW)
   go_wp2_with fail
   go_ret
   exact ⟨rfl, HB.out⟩
structure TwR (n : Nat) (F : Nat → Nat → Bool) (L : List Nat) : Prop where
 len : L.length = n
 same : ∀ p q, p < n → q < n → F p q = (gr L p).testBit q
theorem TwR.new (n : Nat) : TwR n (fun _ _ => false) (List.replicate n 0) :=
 ⟨by simp, fun p q hp hq => by rw [Qge (R := 0) (by simp [hp]), Nat.zero_testBit]⟩
theorem TwR.ext {n : Nat} {F G : Nat → Nat → Bool} {L : List Nat} (h : TwR n F L) (e : ∀ p q, p < n → q < n → G p q = F p q) : TwR n G L := ⟨h.len, fun p q hp hq => by rw [e p q hp hq]; exact h.same p q hp hq⟩
theorem TwR.put {n : Nat} {F : Nat → Nat → Bool} {L : List Nat} (h : TwR n F L) {a b : Nat} (ha : a < n) (hb : b < n) : TwR n (fun p q => if p = a ∧ q = b then true else F p q) (Qbc L ((a : Nat) : Int) ((b : Nat) : Int) true) := by
 have hl := h.len
 refine ⟨by rw [Qks, hl], fun p q hp hq => ?_⟩
 unfold Qbc
 rw [hl, Qdt ha, Qdt hb, Int.toNat_natCast, Int.toNat_natCast, if_pos (by rfl : (true && true) = true)]
 by_cases e : p = a
 ·subst e
  rw [Qge (L := L.set p _) (R := Qat (gr L p) b true) (by rw [List.getElem?_set, if_pos rfl, if_pos oW]), Qb2]
  by_cases e2 : q = b
  ·subst e2; simp
  ·rw [if_neg (fun h => e2 h.2), if_neg e2]
   exact h.same p q hp hq
 ·rw [if_neg (fun h => e h.1)]
  have : gr (L.set a (Qat (gr L a) b true)) p = gr L p := by
   unfold gr
   simp only [List.getD_eq_getElem?_getD]
   rw [List.getElem?_set, if_neg (fun h => e h.symm)]
  rw [this]
  exact h.same p q hp hq
def Qb8 (F : Nat → Nat → Bool) (a b : Nat) : Nat → Nat → Bool := fun p q => (decide (p < a) || (decide (p = a) && decide (q < b))) && F p q
theorem Qj4 (F : Nat → Nat → Bool) (p q : Nat) : Qb8 F 0 0 p q = false := by simp [Qb8]
theorem Qlv {F : Nat → Nat → Bool} {n a p q : Nat} (hq : q < n) : Qb8 F (a + 1) 0 p q = Qb8 F a n p q := by
 unfold Qb8
 congr 1
 rw [Bool.eq_iff_iff]
 simp
 omega
theorem Qlw {F : Nat → Nat → Bool} {a b p q : Nat} (h : F a b = true) : Qb8 F a (b + 1) p q = (if p = a ∧ q = b then true else Qb8 F a b p q) := by
 unfold Qb8
 by_cases e : p = a ∧ q = b
 ·obtain ⟨rfl, rfl⟩ := e
  simp [h]
 ·rw [if_neg e]
  congr 1
  rw [Bool.eq_iff_iff]
  simp
  omega
theorem Qnm {F : Nat → Nat → Bool} {a b p q : Nat} (h : F a b = false) : Qb8 F a (b + 1) p q = Qb8 F a b p q := by
 unfold Qb8
 by_cases e : p = a ∧ q = b
 ·obtain ⟨rfl, rfl⟩ := e
  simp [h]
 ·congr 1
  rw [Bool.eq_iff_iff]
  simp
  omega
theorem Qlx {F : Nat → Nat → Bool} {n p q : Nat} (hp : p < n) : Qb8 F n 0 p q = F p q := by
 unfold Qb8
 simp [hp]
def Qet (e f : Ev) : Bool := decide (e.k ≠ 3) && decide (f.k ≠ 3) && decide (e.l = f.l)
theorem Qoz (e f : Ev) (w : World) :
  Calls Tryz.prog 132 #[.agg #[.int .i64 e.t, .int .i64 e.k, .int .i64 e.l, .int .u64 e.v, .int .i64 e.m], .agg #[.int .i64 f.t, .int .i64 f.k, .int .i64 f.l, .int .u64 f.v, .int .i64 f.m]] w fun r w' => r = .returned (.bool (Qet e f)) ∧ Below w.heap.size w w' := by
 obtain ⟨t, k, l, v, m⟩ := e
 obtain ⟨t2, k2, l2, v2, m2⟩ := f
 dsimp only
 obtain ⟨W, hW⟩ : ∃ W, W = (w.alloc (.cells #[.int .i64 t, .int .i64 k, .int .i64 l, .int .u64 v, .int .i64 m] 34)).alloc (.cells #[.int .i64 t2, .int .i64 k2, .int .i64 l2, .int .u64 v2, .int .i64 m2] 34) := ⟨_, rfl⟩
 have h2 : Blk W w.heap.size 34 #[.int .i64 t, .int .i64 k, .int .i64 l, .int .u64 v, .int .i64 m] := by rw [hW]; exact (Blk.new w _ _).alloc _
 have h3 : Blk W (w.heap.size + 1) 34 #[.int .i64 t2, .int .i64 k2, .int .i64 l2, .int .u64 v2, .int .i64 m2] := by rw [hW]; exact Blk.new2 w _ _ _
 have HBW : Hid (Below w.heap.size w W) := by rw [Hid, hW]; exact (bW.alloc nW _).alloc sW _
 have y1 : W.cell? ⟨w.heap.size, 1, none⟩ = some (.int .i64 k) := h2.cell rfl
 have y2 : W.cell? ⟨w.heap.size, 2, none⟩ = some (.int .i64 l) := h2.cell rfl
 have z1 : W.cell? ⟨w.heap.size + 1, 1, none⟩ = some (.int .i64 k2) := h3.cell rfl
 have z2 : W.cell? ⟨w.heap.size + 1, 2, none⟩ = some (.int .i64 l2) := h3.cell rfl
 generalize hr : Qet ⟨t, k, l, v, m⟩ ⟨t2, k2, l2, v2, m2⟩ = r
 have HR := Qa hr
 clear h2 h3 hr
 go_enter Tryz.func132, Tryz.ntmps132
 go_upto_region 1 with fail
 rw [← hW]
 clear hW
 by_cases hk : k = 3
 ·obtain rfl : r = false := by rw [← HR.out]; simp [Qet, hk]
  subst hk
  go_wp2_with fail
  go_ret
  exact ⟨rfl, HBW.out⟩
 ·have q1 : ((k : Int) != 3) = true := by simp [hk]
  by_cases hk2 : k2 = 3
  ·obtain rfl : r = false := by rw [← HR.out]; simp [Qet, hk2]
   subst hk2
   go_wp2_with fail
   go_ret
   exact ⟨rfl, HBW.out⟩
  ·have q2 : ((k2 : Int) != 3) = true := by simp [hk2]
   by_cases hl : l = l2
   ·obtain rfl : r = true := by rw [← HR.out]; simp [Qet, hk, hk2, hl]
    subst hl
    go_wp2_with fail
    go_ret
    exact ⟨rfl, HBW.out⟩
   ·obtain rfl : r = false := by rw [← HR.out]; simp [Qet, hl]
    have q3 : ((l : Int) == l2) = false := by rw [beq_eq_false_iff_ne]; exact hl
    go_wp2_with fail
    go_ret
    exact ⟨rfl, HBW.out⟩
def Qhz (evs : List Ev) (a b : Nat) : Bool := decide ((evs.getD a Ev.zero).t ≠ (evs.getD b Ev.zero).t)
theorem QAn (v : Value) (l : List Ev) (c a b : Nat) (w : World) (hc : Blk w c 23 #[v]) (h : EvArg w v l) (ha : a < l.length) (hb : b < l.length) :
  Calls Tryz.prog 127 #[.int .i64 ((a : Nat) : Int), .int .i64 ((b : Nat) : Int), pv c] w fun r w' => r = .returned (.bool (poB l a b)) ∧ Below w.heap.size w w' := by
 have hcc := Qh0 v l a b w h ha hb
 generalize poB l a b = r at *
 obtain ⟨p, cap, rfl, _⟩ := h
 have c0 := hc.cell (j := 0) rfl
 have HC := Qa hcc
 clear hcc hc
 go_enter Tryz.func127, Tryz.ntmps127
 go_wp2_with fail
 refine HC.out.mono ?_
 rintro e w2 ⟨rfl, hB⟩
 go_wp2_with fail
 go_ret
 exact ⟨rfl, hB⟩
theorem QAo (v : Value) (l : List Ev) (c a b : Nat) (w : World) (hc : Blk w c 23 #[v]) (h : EvArg w v l) (ha : a < l.length) (hb : b < l.length) :
  Calls Tryz.prog 131 #[.int .i64 ((a : Nat) : Int), .int .i64 ((b : Nat) : Int), pv c] w fun r w' => r = .returned (.bool (Qet (l.getD a Ev.zero) (l.getD b Ev.zero))) ∧ Below w.heap.size w w' := by
 obtain ⟨p, cap, rfl, hp, _⟩ := h
 obtain ⟨s, o, rfl, hat⟩ := hp oW
 have a0 := hat.c0 a _ (Qbp ha)
 have b0 := hat.c0 b _ (Qbp hb)
 have a1 := hat.c1 a _ (Qbp ha)
 have b1 := hat.c1 b _ (Qbp hb)
 have a2 := hat.c2 a _ (Qbp ha)
 have b2 := hat.c2 b _ (Qbp hb)
 have a3 := hat.c3 a _ (Qbp ha)
 have b3 := hat.c3 b _ (Qbp hb)
 have a4 := hat.c4 a _ (Qbp ha)
 have b4 := hat.c4 b _ (Qbp hb)
 have A0 : (0 : Int) ≤ (a : Int) := by omega
 have A1 : (a : Int) < (l.length : Int) := by omega
 have B0 : (0 : Int) ≤ (b : Int) := by omega
 have B1 : (b : Int) < (l.length : Int) := by omega
 have c0 := hc.cell (j := 0) rfl
 have hcc := fun W => Qoz (l.getD a Ev.zero) (l.getD b Ev.zero) W
 generalize Qet (l.getD a Ev.zero) (l.getD b Ev.zero) = r at *
 generalize l.getD a Ev.zero = ea at *
 generalize l.getD b Ev.zero = eb at *
 obtain ⟨t1, k1, l1, v1, m1⟩ := ea
 obtain ⟨t2, k2, l2, v2, m2⟩ := eb
 dsimp only at hcc a0 b0 a1 b1 a2 b2 a3 b3 a4 b4
 have HC := Qa hcc
 have hs := hat.lt
 have HS : Hid (∀ W, Below w.heap.size w W → W.cell? ⟨c, 0, none⟩ = some (.slice (some ⟨s, o, none⟩) l.length cap) ∧ W.cell? ⟨s, o + a * 5, none⟩ = some (.int .i64 t1) ∧ W.cell? ⟨s, o + b * 5, none⟩ = some (.int .i64 t2) ∧ W.cell? ⟨s, o + a * 5 + 1, none⟩ = some (.int .i64 k1) ∧ W.cell? ⟨s, o + b * 5 + 1, none⟩ = some (.int .i64 k2) ∧ W.cell? ⟨s, o + a * 5 + 2, none⟩ = some (.int .i64 l1) ∧ W.cell? ⟨s, o + b * 5 + 2, none⟩ = some (.int .i64 l2) ∧ W.cell? ⟨s, o + a * 5 + 3, none⟩ = some (.int .u64 v1) ∧ W.cell? ⟨s, o + b * 5 + 3, none⟩ = some (.int .u64 v2) ∧ W.cell? ⟨s, o + a * 5 + 4, none⟩ = some (.int .i64 m1) ∧ W.cell? ⟨s, o + b * 5 + 4, none⟩ = some (.int .i64 m2)) := fun W hW => ⟨(hW.cell (p := ⟨c, 0, none⟩) hc.lt).trans c0, (hW.cell (p := ⟨s, o + a * 5, none⟩) hs).trans a0, (hW.cell (p := ⟨s, o + b * 5, none⟩) hs).trans b0, (hW.cell (p := ⟨s, o + a * 5 + 1, none⟩) hs).trans a1, (hW.cell (p := ⟨s, o + b * 5 + 1, none⟩) hs).trans b1, (hW.cell (p := ⟨s, o + a * 5 + 2, none⟩) hs).trans a2, (hW.cell (p := ⟨s, o + b * 5 + 2, none⟩) hs).trans b2, (hW.cell (p := ⟨s, o + a * 5 + 3, none⟩) hs).trans a3, (hW.cell (p := ⟨s, o + b * 5 + 3, none⟩) hs).trans b3, (hW.cell (p := ⟨s, o + a * 5 + 4, none⟩) hs).trans a4, (hW.cell (p := ⟨s, o + b * 5 + 4, none⟩) hs).trans b4⟩
 clear hcc hp hat
 go_enter Tryz.func131, Tryz.ntmps131
 go_upto_region 1 with fail
 go_region_held3 (fun W => W.cell? ⟨c, 0, none⟩ = some (.slice (some ⟨s, o, none⟩) l.length cap) ∧ W.cell? ⟨s, o + a * 5, none⟩ = some (.int .i64 t1) ∧ W.cell? ⟨s, o + b * 5, none⟩ = some (.int .i64 t2) ∧ W.cell? ⟨s, o + a * 5 + 1, none⟩ = some (.int .i64 k1) ∧ W.cell? ⟨s, o + b * 5 + 1, none⟩ = some (.int .i64 k2) ∧ W.cell? ⟨s, o + a * 5 + 2, none⟩ = some (.int .i64 l1) ∧ W.cell? ⟨s, o + b * 5 + 2, none⟩ = some (.int .i64 l2) ∧ W.cell? ⟨s, o + a * 5 + 3, none⟩ = some (.int .u64 v1) ∧ W.cell? ⟨s, o + b * 5 + 3, none⟩ = some (.int .u64 v2) ∧ W.cell? ⟨s, o + a * 5 + 4, none⟩ = some (.int .i64 m1) ∧ W.cell? ⟨s, o + b * 5 + 4, none⟩ = some (.int .i64 m2)) (first | assumption | exact ⟨c0, a0, b0, a1, b1, a2, b2, a3, b3, a4, b4⟩) (first | (go_at_call 132; refine (HC.out _).mono ?_; rintro e w5 ⟨rfl, hB5⟩; have hX5 : Below w.heap.size w w5 := (bW.drew).trans hB5; have K5 := HS.out w5 hX5))
 all_goals
  go_wp2_with fail
  go_ret
  exact ⟨rfl, hX5⟩
theorem QAp (v : Value) (l : List Ev) (c a b : Nat) (w : World) (hc : Blk w c 23 #[v]) (h : EvArg w v l) (ha : a < l.length) (hb : b < l.length) :
  Calls Tryz.prog 133 #[.int .i64 ((a : Nat) : Int), .int .i64 ((b : Nat) : Int), pv c] w fun r w' => r = .returned (.bool (Qhz l a b)) ∧ Below w.heap.size w w' := by
 obtain ⟨p, cap, rfl, hp, _⟩ := h
 obtain ⟨s, o, rfl, hat⟩ := hp oW
 have a0 := hat.c0 a _ (Qbp ha)
 have b0 := hat.c0 b _ (Qbp hb)
 have A0 : (0 : Int) ≤ (a : Int) := by omega
 have A1 : (a : Int) < (l.length : Int) := by omega
 have B0 : (0 : Int) ≤ (b : Int) := by omega
 have B1 : (b : Int) < (l.length : Int) := by omega
 have c0 := hc.cell (j := 0) rfl
 generalize hr : Qhz l a b = r
 have HR := Qa hr
 unfold Qhz at HR
 clear hr hp hat
 generalize (l.getD a Ev.zero).t = ta at *
 generalize (l.getD b Ev.zero).t = tb at *
 go_enter Tryz.func133, Tryz.ntmps133
 by_cases e : ta = tb
 ·subst e
  obtain rfl : r = false := by rw [← HR.out]; simp
  go_wp2_with fail
  go_quiet (fail)
  go_wp2_with fail
  go_ret
  exact ⟨by simp, Qab bW _⟩
 ·obtain rfl : r = true := by rw [← HR.out]; simp [e]
  have q1 : ((ta : Int) != tb) = true := by simp [e]
  go_wp2_with fail
  go_quiet (fail)
  go_wp2_with fail
  go_ret
  exact ⟨by first | rfl | simp [e], Qab bW _⟩
theorem Qo0 (v : Value) (l : List Ev) (c : Nat) (w : World) (hc : Blk w c 23 #[v]) (h : EvArg w v l) (hn : l.length ≤ 256) :
  Calls Tryz.prog 126 #[.int .i64 (l.length : Int), .func (.func 127) #[] #[pv c]] w fun r w' => ∃ b2 c2 L, r = .returned (pv b2) ∧ Made w w' b2 c2 L ∧ TwR l.length (fun a b => poB l a b) L := by
 have HCC : Hid (∀ W a b, Below w.heap.size w W → a < l.length → b < l.length → Calls Tryz.prog 127 #[.int .i64 ((a : Nat) : Int), .int .i64 ((b : Nat) : Int), pv c] W fun r w' => r = .returned (.bool ((fun a b => poB l a b) a b)) ∧ Below W.heap.size W w') := fun W a b hW ha hb => QAn v l c a b W (hc.of_below hW) (h.below hW) ha hb
 clear hc h
 generalize (fun a b => poB l a b) = F at *
 go_enter Tryz.func126, Tryz.ntmps126
 go_wp2_with fail
 refine (Qg4 l.length hn w).mono ?_
 rintro e w1 ⟨b2, c2, rfl, hM⟩
 have hb2 := hM.hb
 have hc2 := hM.hc
 have HM := Qa hM
 clear hM
 go_wp2_with fail
 go_loopg [11] l.length (fun f i wr => ∃ (a : Nat) (A : List Nat), i = .int .i64 ((a : Nat) : Int) ∧ a ≤ l.length ∧ Hid (a + f = l.length) ∧ Hid (IsRel wr b2 c2 A) ∧ Hid (TwR l.length (Qb8 F a 0) A) ∧ Hid (Below w.heap.size w wr))
 case atStart => exact ⟨0, _, rfl, Nat.zero_le _, Nat.zero_add _, HM.out.rel, (TwR.new _).ext (fun p q _ _ => Qj4 F p q), HM.out.below⟩
 case round =>
  clear HM
  obtain ⟨a, A, rfl, ha, HAF, HI, HT, HB⟩ := hrel
  by_cases hal : a < l.length
  ·go_wp2_with fail
   go_loopg [15] l.length (fun f i wr => ∃ (b : Nat) (A : List Nat), i = .int .i64 ((b : Nat) : Int) ∧ b ≤ l.length ∧ Hid (b + f = l.length) ∧ Hid (IsRel wr b2 c2 A) ∧ Hid (TwR l.length (Qb8 F a b) A) ∧ Hid (Below w.heap.size w wr))
   case atStart => exact ⟨0, A, rfl, Nat.zero_le _, Nat.zero_add _, HI.out, HT.out, HB.out⟩
   case round =>
    clear HI HT HB
    obtain ⟨b, A, rfl, hb, HBF, HI, HT, HB⟩ := hrel
    by_cases hbl : b < l.length
    ·have hcall := HCC.out wr a b HB.out hal hbl
     cases hF : F a b
     ·rw [hF] at hcall
      have HC := Qa hcall
      have HN : Hid (TwR l.length (Qb8 F a (b + 1)) A) := HT.out.ext (fun p q _ _ => Qnm hF)
      clear hcall hF
      go_wp2_with fail
      refine HC.out.mono ?_
      rintro e w3 ⟨rfl, hB3⟩
      go_wp2_with fail
      go_roundg (l.length - (b + 1))
      case measure => have := HBF.out; omega
      case rel => exact ⟨b + 1, A, by go_num, oW, by have := HBF.out; rw [Hid]; omega, HI.out.below hB3, HN.out, Qaa HB.out HB.out.size hB3⟩
     ·rw [hF] at hcall
      have HC := Qa hcall
      have HN : Hid (TwR l.length (Qb8 F a (b + 1)) (Qbc A ((a : Nat) : Int) ((b : Nat) : Int) true)) := (HT.out.put hal hbl).ext (fun p q _ _ => Qlw hF)
      clear hcall hF
      go_wp2_with fail
      refine HC.out.mono ?_
      rintro e w3 ⟨rfl, hB3⟩
      have HB3 : Hid (Below w.heap.size w w3) := Qaa HB.out HB.out.size hB3
      have HI3 := Qa (HI.out.below hB3)
      clear hB3
      go_wp2_with fail
      refine (Qd6 b2 c2 A ((a : Nat) : Int) ((b : Nat) : Int) true w3 HI3.out).mono ?_
      rintro e w4 ⟨rfl, hI4, ht4⟩
      go_wp2_with fail
      go_roundg (l.length - (b + 1))
      case measure => have := HBF.out; omega
      case rel => exact ⟨b + 1, _, by go_num, oW, by have := HBF.out; rw [Hid]; omega, hI4, HN.out, HB3.out.trans (ht4.below hc2 HB3.out.size)⟩
    ·obtain rfl : b = l.length := by omega
     go_wp2_with fail
     go_roundg (l.length - (a + 1))
     case measure => have := HAF.out; omega
     case rel => exact ⟨a + 1, A, by go_num, oW, by have := HAF.out; rw [Hid]; omega, HI.out, HT.out.ext (fun p q _ hq => Qlv hq), HB.out⟩
  ·obtain rfl : a = l.length := by omega
   go_wp2_with fail
   go_ret
   exact ⟨b2, c2, A, rfl, ⟨HI.out, hb2, hc2, HB.out⟩, HT.out.ext (fun p q hp _ => (Qlx hp).symm)⟩
theorem Qo1 (v : Value) (l : List Ev) (c : Nat) (w : World) (hc : Blk w c 23 #[v]) (h : EvArg w v l) (hn : l.length ≤ 256) :
  Calls Tryz.prog 126 #[.int .i64 (l.length : Int), .func (.func 131) #[] #[pv c]] w fun r w' => ∃ b2 c2 L, r = .returned (pv b2) ∧ Made w w' b2 c2 L ∧ TwR l.length (fun a b => Qet (l.getD a Ev.zero) (l.getD b Ev.zero)) L := by
 have HCC : Hid (∀ W a b, Below w.heap.size w W → a < l.length → b < l.length → Calls Tryz.prog 131 #[.int .i64 ((a : Nat) : Int), .int .i64 ((b : Nat) : Int), pv c] W fun r w' => r = .returned (.bool ((fun a b => Qet (l.getD a Ev.zero) (l.getD b Ev.zero)) a b)) ∧ Below W.heap.size W w') := fun W a b hW ha hb => QAo v l c a b W (hc.of_below hW) (h.below hW) ha hb
 clear hc h
 generalize (fun a b => Qet (l.getD a Ev.zero) (l.getD b Ev.zero)) = F at *
 go_enter Tryz.func126, Tryz.ntmps126
 go_wp2_with fail
 refine (Qg4 l.length hn w).mono ?_
 rintro e w1 ⟨b2, c2, rfl, hM⟩
 have hb2 := hM.hb
 have hc2 := hM.hc
 have HM := Qa hM
 clear hM
 go_wp2_with fail
 go_loopg [11] l.length (fun f i wr => ∃ (a : Nat) (A : List Nat), i = .int .i64 ((a : Nat) : Int) ∧ a ≤ l.length ∧ Hid (a + f = l.length) ∧ Hid (IsRel wr b2 c2 A) ∧ Hid (TwR l.length (Qb8 F a 0) A) ∧ Hid (Below w.heap.size w wr))
 case atStart => exact ⟨0, _, rfl, Nat.zero_le _, Nat.zero_add _, HM.out.rel, (TwR.new _).ext (fun p q _ _ => Qj4 F p q), HM.out.below⟩
 case round =>
  clear HM
  obtain ⟨a, A, rfl, ha, HAF, HI, HT, HB⟩ := hrel
  by_cases hal : a < l.length
  ·go_wp2_with fail
   go_loopg [15] l.length (fun f i wr => ∃ (b : Nat) (A : List Nat), i = .int .i64 ((b : Nat) : Int) ∧ b ≤ l.length ∧ Hid (b + f = l.length) ∧ Hid (IsRel wr b2 c2 A) ∧ Hid (TwR l.length (Qb8 F a b) A) ∧ Hid (Below w.heap.size w wr))
   case atStart => exact ⟨0, A, rfl, Nat.zero_le _, Nat.zero_add _, HI.out, HT.out, HB.out⟩
   case round =>
    clear HI HT HB
    obtain ⟨b, A, rfl, hb, HBF, HI, HT, HB⟩ := hrel
    by_cases hbl : b < l.length
    ·have hcall := HCC.out wr a b HB.out hal hbl
     cases hF : F a b
     ·rw [hF] at hcall
      have HC := Qa hcall
      have HN : Hid (TwR l.length (Qb8 F a (b + 1)) A) := HT.out.ext (fun p q _ _ => Qnm hF)
      clear hcall hF
      go_wp2_with fail
      refine HC.out.mono ?_
      rintro e w3 ⟨rfl, hB3⟩
      go_wp2_with fail
      go_roundg (l.length - (b + 1))
      case measure => have := HBF.out; omega
      case rel => exact ⟨b + 1, A, by go_num, oW, by have := HBF.out; rw [Hid]; omega, HI.out.below hB3, HN.out, Qaa HB.out HB.out.size hB3⟩
     ·rw [hF] at hcall
      have HC := Qa hcall
      have HN : Hid (TwR l.length (Qb8 F a (b + 1)) (Qbc A ((a : Nat) : Int) ((b : Nat) : Int) true)) := (HT.out.put hal hbl).ext (fun p q _ _ => Qlw hF)
      clear hcall hF
      go_wp2_with fail
      refine HC.out.mono ?_
      rintro e w3 ⟨rfl, hB3⟩
      have HB3 : Hid (Below w.heap.size w w3) := Qaa HB.out HB.out.size hB3
      have HI3 := Qa (HI.out.below hB3)
      clear hB3
      go_wp2_with fail
      refine (Qd6 b2 c2 A ((a : Nat) : Int) ((b : Nat) : Int) true w3 HI3.out).mono ?_
      rintro e w4 ⟨rfl, hI4, ht4⟩
      go_wp2_with fail
      go_roundg (l.length - (b + 1))
      case measure => have := HBF.out; omega
      case rel => exact ⟨b + 1, _, by go_num, oW, by have := HBF.out; rw [Hid]; omega, hI4, HN.out, HB3.out.trans (ht4.below hc2 HB3.out.size)⟩
    ·obtain rfl : b = l.length := by omega
     go_wp2_with fail
     go_roundg (l.length - (a + 1))
     case measure => have := HAF.out; omega
     case rel => exact ⟨a + 1, A, by go_num, oW, by have := HAF.out; rw [Hid]; omega, HI.out, HT.out.ext (fun p q _ hq => Qlv hq), HB.out⟩
  ·obtain rfl : a = l.length := by omega
   go_wp2_with fail
   go_ret
   exact ⟨b2, c2, A, rfl, ⟨HI.out, hb2, hc2, HB.out⟩, HT.out.ext (fun p q hp _ => (Qlx hp).symm)⟩
theorem Qo2 (v : Value) (l : List Ev) (c : Nat) (w : World) (hc : Blk w c 23 #[v]) (h : EvArg w v l) (hn : l.length ≤ 256) :
  Calls Tryz.prog 126 #[.int .i64 (l.length : Int), .func (.func 133) #[] #[pv c]] w fun r w' => ∃ b2 c2 L, r = .returned (pv b2) ∧ Made w w' b2 c2 L ∧ TwR l.length (fun a b => Qhz l a b) L := by
 have HCC : Hid (∀ W a b, Below w.heap.size w W → a < l.length → b < l.length → Calls Tryz.prog 133 #[.int .i64 ((a : Nat) : Int), .int .i64 ((b : Nat) : Int), pv c] W fun r w' => r = .returned (.bool ((fun a b => Qhz l a b) a b)) ∧ Below W.heap.size W w') := fun W a b hW ha hb => QAp v l c a b W (hc.of_below hW) (h.below hW) ha hb
 clear hc h
 generalize (fun a b => Qhz l a b) = F at *
 go_enter Tryz.func126, Tryz.ntmps126
 go_wp2_with fail
 refine (Qg4 l.length hn w).mono ?_
 rintro e w1 ⟨b2, c2, rfl, hM⟩
 have hb2 := hM.hb
 have hc2 := hM.hc
 have HM := Qa hM
 clear hM
 go_wp2_with fail
 go_loopg [11] l.length (fun f i wr => ∃ (a : Nat) (A : List Nat), i = .int .i64 ((a : Nat) : Int) ∧ a ≤ l.length ∧ Hid (a + f = l.length) ∧ Hid (IsRel wr b2 c2 A) ∧ Hid (TwR l.length (Qb8 F a 0) A) ∧ Hid (Below w.heap.size w wr))
 case atStart => exact ⟨0, _, rfl, Nat.zero_le _, Nat.zero_add _, HM.out.rel, (TwR.new _).ext (fun p q _ _ => Qj4 F p q), HM.out.below⟩
 case round =>
  clear HM
  obtain ⟨a, A, rfl, ha, HAF, HI, HT, HB⟩ := hrel
  by_cases hal : a < l.length
  ·go_wp2_with fail
   go_loopg [15] l.length (fun f i wr => ∃ (b : Nat) (A : List Nat), i = .int .i64 ((b : Nat) : Int) ∧ b ≤ l.length ∧ Hid (b + f = l.length) ∧ Hid (IsRel wr b2 c2 A) ∧ Hid (TwR l.length (Qb8 F a b) A) ∧ Hid (Below w.heap.size w wr))
   case atStart => exact ⟨0, A, rfl, Nat.zero_le _, Nat.zero_add _, HI.out, HT.out, HB.out⟩
   case round =>
    clear HI HT HB
    obtain ⟨b, A, rfl, hb, HBF, HI, HT, HB⟩ := hrel
    by_cases hbl : b < l.length
    ·have hcall := HCC.out wr a b HB.out hal hbl
     cases hF : F a b
     ·rw [hF] at hcall
      have HC := Qa hcall
      have HN : Hid (TwR l.length (Qb8 F a (b + 1)) A) := HT.out.ext (fun p q _ _ => Qnm hF)
      clear hcall hF
      go_wp2_with fail
      refine HC.out.mono ?_
      rintro e w3 ⟨rfl, hB3⟩
      go_wp2_with fail
      go_roundg (l.length - (b + 1))
      case measure => have := HBF.out; omega
      case rel => exact ⟨b + 1, A, by go_num, oW, by have := HBF.out; rw [Hid]; omega, HI.out.below hB3, HN.out, Qaa HB.out HB.out.size hB3⟩
     ·rw [hF] at hcall
      have HC := Qa hcall
      have HN : Hid (TwR l.length (Qb8 F a (b + 1)) (Qbc A ((a : Nat) : Int) ((b : Nat) : Int) true)) := (HT.out.put hal hbl).ext (fun p q _ _ => Qlw hF)
      clear hcall hF
      go_wp2_with fail
      refine HC.out.mono ?_
      rintro e w3 ⟨rfl, hB3⟩
      have HB3 : Hid (Below w.heap.size w w3) := Qaa HB.out HB.out.size hB3
      have HI3 := Qa (HI.out.below hB3)
      clear hB3
      go_wp2_with fail
      refine (Qd6 b2 c2 A ((a : Nat) : Int) ((b : Nat) : Int) true w3 HI3.out).mono ?_
      rintro e w4 ⟨rfl, hI4, ht4⟩
      go_wp2_with fail
      go_roundg (l.length - (b + 1))
      case measure => have := HBF.out; omega
      case rel => exact ⟨b + 1, _, by go_num, oW, by have := HBF.out; rw [Hid]; omega, hI4, HN.out, HB3.out.trans (ht4.below hc2 HB3.out.size)⟩
    ·obtain rfl : b = l.length := by omega
     go_wp2_with fail
     go_roundg (l.length - (a + 1))
     case measure => have := HAF.out; omega
     case rel => exact ⟨a + 1, A, by go_num, oW, by have := HAF.out; rw [Hid]; omega, HI.out, HT.out.ext (fun p q _ hq => Qlv hq), HB.out⟩
  ·obtain rfl : a = l.length := by omega
   go_wp2_with fail
   go_ret
   exact ⟨b2, c2, A, rfl, ⟨HI.out, hb2, hc2, HB.out⟩, HT.out.ext (fun p q hp _ => (Qlx hp).symm)⟩
def Qea (l : List Int) (i j : Nat) : List (Int × Int) := (l.take j).map (fun a => (a, l.getD i 0))
def Qeh (l : List Int) (k : Nat) : List (Int × Int) := (List.range k).flatMap (fun i => Qea l i i)
def Qbo (ls : List (List Int)) (m : Nat) : List (Int × Int) := (ls.take m).flatMap (fun l => Qeh l l.length)
def Qo6 (A : List Nat) (ps : List (Int × Int)) : List Nat := ps.foldl (fun A p => Qbc A p.1 p.2 true) A
def puts (n : Nat) (ps : List (Int × Int)) : List Nat := Qo6 (List.replicate n 0) ps
theorem Qwq (n : Nat) (ps : List (Int × Int)) (a b : Int) : puts n (ps ++ [(a, b)]) = Qbc (puts n ps) a b true := by
 unfold puts Qo6
 rw [List.foldl_append]
 rfl
theorem Qr3 (l : List Int) (i : Nat) : Qea l i 0 = [] := by simp [Qea]
theorem Qr4 {l : List Int} {i j : Nat} {a b : Int} (ha : l[j]? = some a) (hb : l[i]? = some b) : Qea l i (j + 1) = Qea l i j ++ [(a, b)] := by
 have e : l.getD i 0 = b := by rw [List.getD_eq_getElem?_getD, hb]; rfl
 unfold Qea
 rw [List.take_add_one, ha, List.map_append, e]
 rfl
theorem Qus (l : List Int) : Qeh l 0 = [] := rfl
theorem Qut (l : List Int) (i : Nat) : Qeh l (i + 1) = Qeh l i ++ Qea l i i := by
 unfold Qeh
 rw [List.range_succ, List.flatMap_append]
 simp
theorem Qr5 (ls : List (List Int)) : Qbo ls 0 = [] := by simp [Qbo]
theorem Qr6 {ls : List (List Int)} {k : Nat} {l : List Int} (h : ls[k]? = some l) : Qbo ls (k + 1) = Qbo ls k ++ Qeh l l.length := by
 unfold Qbo
 rw [List.take_add_one, h, List.flatMap_append]
 simp
theorem TwR.puts {n : Nat} (ps : List (Int × Int)) : ∀ {F : Nat → Nat → Bool} {A : List Nat}, TwR n F A → TwR n (fun p q => F p q || decide ((((p : Nat) : Int), ((q : Nat) : Int)) ∈ ps)) (Qo6 A ps) := by
 induction ps with
 | nil => intro F A h; exact h.ext (fun p q _ _ => by simp)
 | cons x ps ih =>
  intro F A h
  obtain ⟨a, b⟩ := x
  show TwR n _ (Qo6 (Qbc A a b true) ps)
  have hl := h.len
  by_cases hr : inR n a = true ∧ inR n b = true
  ·obtain ⟨i, rfl, hi⟩ := Qfg hr.1
   obtain ⟨j, rfl, hj⟩ := Qfg hr.2
   refine (ih (h.put hi hj)).ext (fun p q _ _ => ?_)
   by_cases e : p = i ∧ q = j
   ·obtain ⟨rfl, rfl⟩ := e
    simp
   ·rw [if_neg e]
    congr 1
    rw [decide_eq_decide, List.mem_cons, Prod.mk.injEq]
    constructor
    ·rintro (⟨h1, h2⟩ | h)
     ·exact absurd ⟨oW, oW⟩ e
     ·exact h
    ·exact .inr
  ·have hp : Qbc A a b true = A := by
    unfold Qbc
    rw [hl, if_neg (fun h => hr (by simpa using h))]
   rw [hp]
   refine (ih h).ext (fun p q hp hq => ?_)
   congr 1
   rw [decide_eq_decide, List.mem_cons, Prod.mk.injEq]
   constructor
   ·rintro (⟨h1, h2⟩ | h)
    ·exact absurd ⟨by rw [← h1]; exact Qdt hp, by rw [← h2]; exact Qdt hq⟩ hr
    ·exact h
   ·exact .inr
theorem Qqy (n : Nat) (ps : List (Int × Int)) : TwR n (fun p q => decide ((((p : Nat) : Int), ((q : Nat) : Int)) ∈ ps)) (puts n ps) :=
 ((TwR.new n).puts ps).ext (fun p q _ _ => by simp)
theorem Qnn (n : Nat) (v : Value) (ls : List (List Int)) (w : World) (h : CoArg w v ls) (hn : n ≤ 256) :
  Calls Tryz.prog 130 #[.int .i64 ((n : Nat) : Int), v] w fun r w' => ∃ b2 c2 L, r = .returned (pv b2) ∧ Made w w' b2 c2 L ∧ TwR n (fun p q => decide ((((p : Nat) : Int), ((q : Nat) : Int)) ∈ Qbo ls ls.length)) L := by
 obtain ⟨p, cap, rfl, hl, vs, hv, h2, h3⟩ := h
 have HV := Qa hv
 have H2 := Qa h2
 have H3 := Qa h3
 clear hv h2 h3
 go_enter Tryz.func130, Tryz.ntmps130
 go_wp2_with fail
 refine (Qg4 n hn w).mono ?_
 rintro e w1 ⟨b2, c2, rfl, hM⟩
 have hb2 := hM.hb
 have hc2 := hM.hc
 have HM := Qa hM
 clear hM
 go_wp2_with fail
 go_loopg [16] ls.length (fun f i wr => ∃ (k : Nat) (A : List Nat), i = .int .i64 ((k : Nat) : Int) ∧ k ≤ ls.length ∧ Hid (k + f = ls.length) ∧ Hid (IsRel wr b2 c2 A) ∧ Hid (A = puts n (Qbo ls k)) ∧ Hid (Below w.heap.size w wr))
 case atStart => exact ⟨0, _, rfl, Nat.zero_le _, Nat.zero_add _, HM.out.rel, (by rw [Hid, Qr5]; rfl), HM.out.below⟩
 case round =>
  clear HM
  obtain ⟨k, A, rfl, hk, HKF, HI, HA, HB⟩ := hrel
  by_cases hkl : k < ls.length
  ·obtain ⟨s, o, rfl, hs, hc⟩ := H2.out oW
   obtain ⟨l, hlx⟩ : ∃ l, ls[k]? = some l := ⟨_, List.getElem?_eq_getElem hkl⟩
   obtain ⟨u, hu⟩ : ∃ u, vs[k]? = some u := ⟨_, List.getElem?_eq_getElem (by have := HV.out; omega)⟩
   obtain ⟨hi, hll, pl, cl, rfl, hcl⟩ := H3.out k u l hu hlx
   have x0 := (HB.out.cell (p := ⟨s, o + k, none⟩) hs).trans (hc k _ hu)
   have K0 : (0 : Int) ≤ (k : Int) := by omega
   have K1 : (k : Int) < (ls.length : Int) := by omega
   have HL := Qa hi
   have HLX := Qa hlx
   clear hi hlx hu hc
   go_wp2_with fail
   clear x0
   go_loopg [22] l.length (fun f i wr => ∃ (j : Nat) (A : List Nat), i = .int .i64 ((j : Nat) : Int) ∧ j ≤ l.length ∧ Hid (j + f = l.length) ∧ Hid (IsRel wr b2 c2 A) ∧ Hid (A = puts n (Qbo ls k ++ Qeh l j)) ∧ Hid (Below w.heap.size w wr))
   case atStart => exact ⟨0, A, rfl, Nat.zero_le _, Nat.zero_add _, HI.out, (by rw [Hid, Qus, List.append_nil]; exact HA.out), HB.out⟩
   case round =>
    clear HI HA HB
    obtain ⟨j, A, rfl, hj, HJF, HI, HA, HB⟩ := hrel
    by_cases hjl : j < l.length
    ·obtain ⟨s2, o2, cap2, e2, hs2, hc⟩ := HL.out.some oW
     injection e2 with e2 _ e4
     subst e2
     subst e4
     obtain ⟨b, hb⟩ : ∃ b, l[j]? = some b := ⟨_, List.getElem?_eq_getElem hjl⟩
     have x0 := (HB.out.cell (p := ⟨s2, o2 + j, none⟩) hs2).trans (hc j b hb)
     have J0 : (0 : Int) ≤ (j : Int) := by omega
     have J1 : (j : Int) < (l.length : Int) := by omega
     have J2 : (j : Int) ≤ (cl : Int) := by omega
     have HC2 := Qa hc
     have HBX := Qa hb
     clear hc hb
     go_wp2_with fail
     clear x0
     go_loopg [31] j (fun f i wr => ∃ (m : Nat) (A : List Nat), i = .int .i64 ((m : Nat) : Int) ∧ m ≤ j ∧ Hid (m + f = j) ∧ Hid (IsRel wr b2 c2 A) ∧ Hid (A = puts n (Qbo ls k ++ Qeh l j ++ Qea l j m)) ∧ Hid (Below w.heap.size w wr))
     case atStart => exact ⟨0, A, rfl, Nat.zero_le _, Nat.zero_add _, HI.out, (by rw [Hid, Qr3, List.append_nil]; exact HA.out), HB.out⟩
     case round =>
      clear HI HA HB
      obtain ⟨m, A, rfl, hm, HMF, HI, HA, HB⟩ := hrel
      by_cases hml : m < j
      ·obtain ⟨a, ha⟩ : ∃ a, l[m]? = some a := ⟨_, List.getElem?_eq_getElem oW⟩
       have x0 := (HB.out.cell (p := ⟨s2, o2 + m, none⟩) hs2).trans (HC2.out m a ha)
       have M0 : (0 : Int) ≤ (m : Int) := by omega
       have M1 : (m : Int) < (j : Int) := by omega
       have HN : Hid (Qbc A a b true = puts n (Qbo ls k ++ Qeh l j ++ Qea l j (m + 1))) := by
        rw [Hid, Qr4 ha HBX.out, ← List.append_assoc, Qwq, ← HA.out]
       clear ha
       go_wp2_with fail
       refine (Qd6 b2 c2 A a b true wr HI.out).mono ?_
       rintro e w4 ⟨rfl, hI4, ht4⟩
       go_wp2_with fail
       go_roundg (j - (m + 1))
       case measure => have := HMF.out; omega
       case rel => exact ⟨m + 1, _, by go_num, oW, by have := HMF.out; rw [Hid]; omega, hI4, HN.out, HB.out.trans (ht4.below hc2 HB.out.size)⟩
      ·obtain rfl : m = j := by omega
       go_wp2_with fail
       go_roundg (l.length - (m + 1))
       case measure => have := HJF.out; omega
       case rel => exact ⟨m + 1, A, by go_num, oW, by have := HJF.out; rw [Hid]; omega, HI.out, (by rw [Hid, Qut, ← List.append_assoc]; exact HA.out), HB.out⟩
    ·obtain rfl : j = l.length := by omega
     go_wp2_with fail
     go_roundg (ls.length - (k + 1))
     case measure => have := HKF.out; omega
     case rel => exact ⟨k + 1, A, by go_num, oW, by have := HKF.out; rw [Hid]; omega, HI.out, (by rw [Hid, Qr6 HLX.out]; exact HA.out), HB.out⟩
  ·obtain rfl : k = ls.length := by omega
   go_wp2_with fail
   go_ret
   exact ⟨b2, c2, A, rfl, ⟨HI.out, hb2, hc2, HB.out⟩, by rw [HA.out]; exact Qqy n _⟩
theorem Qcw {w : World} {v : Value} {l : List Int} (h : IntsR w v l) : ∃ p cap, v = .slice p l.length cap ∧ (0 < l.length → ∃ s o, p = some ⟨s, o, none⟩ ∧ s < w.heap.size ∧ ∀ (i : Nat) (x : Int), l[i]? = some x → w.cell? ⟨s, o + i, none⟩ = some (.int .i64 x)) := by
 rcases h with ⟨a, cap, rfl, rfl⟩ | ⟨s, o, cap, rfl, h1, h2⟩
 ·exact ⟨_, _, rfl, fun h => by simp at h⟩
 ·exact ⟨_, _, rfl, fun _ => ⟨s, o, rfl, h1, h2⟩⟩
theorem Qno (u v : Value) (l m : List Int) (w : World) (h1 : IntsR w u l) (h2 : IntsR w v m) (hl : l.length ≤ 9223372036854775807) :
  Calls Tryz.prog 164 #[u, v] w fun r w' => r = .returned (.bool (decide (l = m))) ∧ Below w.heap.size w w' := by
 obtain ⟨p1, c1, rfl, hp1⟩ := Qcw h1
 obtain ⟨p2, c2, rfl, hp2⟩ := Qcw h2
 have HP1 := Qa hp1
 have HP2 := Qa hp2
 generalize hr : decide (l = m) = r
 have HR := Qa hr
 clear hp1 hp2 h1 h2 hr
 go_enter Tryz.func164, Tryz.ntmps164
 by_cases hlm : l.length = m.length
 ·rw [← hlm]
  go_wp2_with fail
  go_loopg [13] l.length (fun f i wr => ∃ k : Nat, i = .int .i64 ((k : Nat) : Int) ∧ k ≤ l.length ∧ Hid (k + f = l.length) ∧ Hid (∀ j, j < k → l[j]? = m[j]?) ∧ Hid (Below w.heap.size w wr))
  case atStart => exact ⟨0, rfl, Nat.zero_le _, Nat.zero_add _, (fun j h => by omega), Below.refl _ _⟩
  case round =>
   obtain ⟨k, rfl, hk, HKF, HALL, HB⟩ := hrel
   by_cases hkl : k < l.length
   ·obtain ⟨s1, o1, rfl, hs1, k1⟩ := HP1.out oW
    obtain ⟨s2, o2, rfl, hs2, k2⟩ := HP2.out oW
    obtain ⟨x, hx⟩ : ∃ x, l[k]? = some x := ⟨_, List.getElem?_eq_getElem hkl⟩
    obtain ⟨y, hy⟩ : ∃ y, m[k]? = some y := ⟨_, List.getElem?_eq_getElem oW⟩
    have x0 := (HB.out.cell (p := ⟨s1, o1 + k, none⟩) hs1).trans (k1 k x hx)
    have y0 := (HB.out.cell (p := ⟨s2, o2 + k, none⟩) hs2).trans (k2 k y hy)
    have K0 : (0 : Int) ≤ (k : Int) := by omega
    have K1 : (k : Int) < (l.length : Int) := by omega
    have HX := Qa hx
    have HY := Qa hy
    clear k1 k2 hx hy
    by_cases hxy : x = y
    ·subst hxy
     have q1 : ((x : Int) != x) = false := by simp
     go_upto_region 6 with fail
     go_quiet (fail)
     go_wp2_with fail
     go_roundg (l.length - (k + 1))
     case measure => have := HKF.out; omega
     case rel =>
      refine ⟨k + 1, by go_num, oW, by have := HKF.out; rw [Hid]; omega, fun j hj => ?_, Qab HB.out _⟩
      by_cases e : j = k
      ·subst e; rw [HX.out, HY.out]
      ·exact HALL.out j oW
    ·have q1 : ((x : Int) != y) = true := by simp [hxy]
     obtain rfl : r = false := by
      rw [← HR.out]
      exact decide_eq_false (fun e => hxy (by have := HX.out; rw [e, HY.out] at this; exact (Option.some.inj this).symm))
     go_upto_region 6 with fail
     go_quiet (fail)
     go_wp2_with fail
     go_ret
     exact ⟨rfl, Qab HB.out _⟩
   ·obtain rfl : k = l.length := by omega
    obtain rfl : r = true := by
     rw [← HR.out]
     refine decide_eq_true (List.ext_getElem? (fun j => ?_))
     by_cases hj : j < l.length
     ·exact HALL.out j hj
     ·rw [List.getElem?_eq_none oW, List.getElem?_eq_none oW]
    go_wp2_with fail
    go_ret
    exact ⟨rfl, HB.out⟩
 ·have q0 : (((l.length : Int)) != (m.length : Int)) = true := by rw [bne_iff_ne]; omega
  obtain rfl : r = false := by
   rw [← HR.out]
   exact decide_eq_false (fun e => hlm (by rw [e]))
  go_wp2_with fail
  go_ret
  exact ⟨rfl, Below.refl _ _⟩
end Go.Proofs.YtdkogbfamdnheaaGreatDoor
