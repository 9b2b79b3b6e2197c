/- ordered: the relation of all pairs of which the one stands ahead of the other in a list. -/
import Derived.Test.YtlmjdhmgfkognaaDoorJ13
namespace Go.Proofs.YtlmjdhmgfkognaaDoor
open Go.RowKit Go.Shelf Sx

def ordRow (l : List Int) (i j : Nat) : List (Int × Int) := (l.take j).map (fun a => (a, l.getD i 0))
def ordIn (l : List Int) (k : Nat) : List (Int × Int) := (List.range k).flatMap (fun i => ordRow l i i)
def ordAll (ls : List (List Int)) (m : Nat) : List (Int × Int) := (ls.take m).flatMap (fun l => ordIn l l.length)
def putsF (A : List Nat) (ps : List (Int × Int)) : List Nat := ps.foldl (fun A p => putP A p.1 p.2 true) A
def puts (n : Nat) (ps : List (Int × Int)) : List Nat := putsF (List.replicate n 0) ps
theorem puts_snoc (n : Nat) (ps : List (Int × Int)) (a b : Int) : puts n (ps ++ [(a, b)]) = putP (puts n ps) a b true := by
  unfold puts putsF
  rw [List.foldl_append]
  rfl
theorem ordRow_zero (l : List Int) (i : Nat) : ordRow l i 0 = [] := by simp [ordRow]
theorem ordRow_succ {l : List Int} {i j : Nat} {a b : Int} (ha : l[j]? = some a) (hb : l[i]? = some b) : ordRow l i (j + 1) = ordRow l i j ++ [(a, b)] := by
  have e : l.getD i 0 = b := by rw [List.getD_eq_getElem?_getD, hb]; rfl
  unfold ordRow
  rw [List.take_add_one, ha, List.map_append, e]
  rfl
theorem ordIn_zero (l : List Int) : ordIn l 0 = [] := rfl
theorem ordIn_succ (l : List Int) (i : Nat) : ordIn l (i + 1) = ordIn l i ++ ordRow l i i := by
  unfold ordIn
  rw [List.range_succ, List.flatMap_append]
  simp
theorem ordAll_zero (ls : List (List Int)) : ordAll ls 0 = [] := by simp [ordAll]
theorem ordAll_succ {ls : List (List Int)} {k : Nat} {l : List Int} (h : ls[k]? = some l) : ordAll ls (k + 1) = ordAll ls k ++ ordIn l l.length := by
  unfold ordAll
  rw [List.take_add_one, h, List.flatMap_append]
  simp
theorem TwR.puts {n : Nat} (ps : List (Int × Int)) : ∀ {F : Nat → Nat → Bool} {A : List Nat}, TwR n F A → TwR n (fun p q => F p q || decide ((((p : Nat) : Int), ((q : Nat) : Int)) ∈ ps)) (putsF A ps) := by
  induction ps with
  | nil => intro F A h; exact h.ext (fun p q _ _ => by simp)
  | cons x ps ih =>
    intro F A h
    obtain ⟨a, b⟩ := x
    show TwR n _ (putsF (putP A a b true) ps)
    have hl := h.len
    by_cases hr : inR n a = true ∧ inR n b = true
    · obtain ⟨i, rfl, hi⟩ := inR_true hr.1
      obtain ⟨j, rfl, hj⟩ := inR_true hr.2
      refine (ih (h.put hi hj)).ext (fun p q _ _ => ?_)
      by_cases e : p = i ∧ q = j
      · obtain ⟨rfl, rfl⟩ := e
        simp
      · rw [if_neg e]
        congr 1
        rw [decide_eq_decide, List.mem_cons, Prod.mk.injEq]
        constructor
        · rintro (⟨h1, h2⟩ | h)
          · exact absurd ⟨by omega, by omega⟩ e
          · exact h
        · exact .inr
    · have hp : putP A a b true = A := by
        unfold putP
        rw [hl, if_neg (fun h => hr (by simpa using h))]
      rw [hp]
      refine (ih h).ext (fun p q hp hq => ?_)
      congr 1
      rw [decide_eq_decide, List.mem_cons, Prod.mk.injEq]
      constructor
      · rintro (⟨h1, h2⟩ | h)
        · exact absurd ⟨by rw [← h1]; exact inR_nat hp, by rw [← h2]; exact inR_nat hq⟩ hr
        · exact h
      · exact .inr
theorem puts_twr (n : Nat) (ps : List (Int × Int)) : TwR n (fun p q => decide ((((p : Nat) : Int), ((q : Nat) : Int)) ∈ ps)) (puts n ps) :=
  ((TwR.new n).puts ps).ext (fun p q _ _ => by simp)
set_option linter.unusedSimpArgs false in
set_option maxRecDepth 100000 in
set_option maxHeartbeats 4000000 in
theorem gOrdered_calls (n : Nat) (v : Value) (ls : List (List Int)) (w : World) (h : CoArg w v ls) (hn : n ≤ 256) :
    Calls Tryd.prog 24 #[.int .i64 ((n : Nat) : Int), v] w fun r w' => ∃ b2 c2 L, r = .returned (pv b2) ∧ Made w w' b2 c2 L ∧ TwR n (fun p q => decide ((((p : Nat) : Int), ((q : Nat) : Int)) ∈ ordAll ls ls.length)) L := by
  obtain ⟨p, cap, rfl, hl, vs, hv, h2, h3⟩ := h
  have HV := hid_of hv
  have H2 := hid_of h2
  have H3 := hid_of h3
  clear hv h2 h3
  go_enter Tryd.func24, Tryd.ntmps24
  go_wp2_with fail
  refine (New_c n hn w).mono ?_
  rintro e w1 ⟨b2, c2, rfl, hM⟩
  have hb2 := hM.hb
  have hc2 := hM.hc
  have HM := hid_of hM
  clear hM
  go_wp2_with fail
  go_loopg [16] ls.length (fun f i wr => ∃ (k : Nat) (A : List Nat), i = .int .i64 ((k : Nat) : Int) ∧ k ≤ ls.length ∧ Hid (k + f = ls.length) ∧ Hid (IsRel wr b2 c2 A) ∧ Hid (A = puts n (ordAll ls k)) ∧ Hid (Below w.heap.size w wr))
  case atStart => exact ⟨0, _, rfl, Nat.zero_le _, Nat.zero_add _, HM.out.rel, (by rw [Hid, ordAll_zero]; rfl), HM.out.below⟩
  case round =>
    clear HM
    obtain ⟨k, A, rfl, hk, HKF, HI, HA, HB⟩ := hrel
    by_cases hkl : k < ls.length
    · obtain ⟨s, o, rfl, hs, hc⟩ := H2.out (by omega)
      obtain ⟨l, hlx⟩ : ∃ l, ls[k]? = some l := ⟨_, List.getElem?_eq_getElem hkl⟩
      obtain ⟨u, hu⟩ : ∃ u, vs[k]? = some u := ⟨_, List.getElem?_eq_getElem (by have := HV.out; omega)⟩
      obtain ⟨hi, hll, pl, cl, rfl, hcl⟩ := H3.out k u l hu hlx
      have x0 := (HB.out.cell (p := ⟨s, o + k, none⟩) hs).trans (hc k _ hu)
      have K0 : (0 : Int) ≤ ((k : Nat) : Int) := by omega
      have K1 : ((k : Nat) : Int) < ((ls.length : Nat) : Int) := by omega
      have HL := hid_of hi
      have HLX := hid_of hlx
      clear hi hlx hu hc
      go_wp2_with fail
      clear x0
      go_loopg [22] l.length (fun f i wr => ∃ (j : Nat) (A : List Nat), i = .int .i64 ((j : Nat) : Int) ∧ j ≤ l.length ∧ Hid (j + f = l.length) ∧ Hid (IsRel wr b2 c2 A) ∧ Hid (A = puts n (ordAll ls k ++ ordIn l j)) ∧ Hid (Below w.heap.size w wr))
      case atStart => exact ⟨0, A, rfl, Nat.zero_le _, Nat.zero_add _, HI.out, (by rw [Hid, ordIn_zero, List.append_nil]; exact HA.out), HB.out⟩
      case round =>
        clear HI HA HB
        obtain ⟨j, A, rfl, hj, HJF, HI, HA, HB⟩ := hrel
        by_cases hjl : j < l.length
        · obtain ⟨s2, o2, cap2, e2, hs2, hc⟩ := HL.out.some (by omega)
          injection e2 with e2 _ e4
          subst e2
          subst e4
          obtain ⟨b, hb⟩ : ∃ b, l[j]? = some b := ⟨_, List.getElem?_eq_getElem hjl⟩
          have x0 := (HB.out.cell (p := ⟨s2, o2 + j, none⟩) hs2).trans (hc j b hb)
          have J0 : (0 : Int) ≤ ((j : Nat) : Int) := by omega
          have J1 : ((j : Nat) : Int) < ((l.length : Nat) : Int) := by omega
          have J2 : ((j : Nat) : Int) ≤ ((cl : Nat) : Int) := by omega
          have HC2 := hid_of hc
          have HBX := hid_of hb
          clear hc hb
          go_wp2_with fail
          clear x0
          go_loopg [31] j (fun f i wr => ∃ (m : Nat) (A : List Nat), i = .int .i64 ((m : Nat) : Int) ∧ m ≤ j ∧ Hid (m + f = j) ∧ Hid (IsRel wr b2 c2 A) ∧ Hid (A = puts n (ordAll ls k ++ ordIn l j ++ ordRow l j m)) ∧ Hid (Below w.heap.size w wr))
          case atStart => exact ⟨0, A, rfl, Nat.zero_le _, Nat.zero_add _, HI.out, (by rw [Hid, ordRow_zero, List.append_nil]; exact HA.out), HB.out⟩
          case round =>
            clear HI HA HB
            obtain ⟨m, A, rfl, hm, HMF, HI, HA, HB⟩ := hrel
            by_cases hml : m < j
            · obtain ⟨a, ha⟩ : ∃ a, l[m]? = some a := ⟨_, List.getElem?_eq_getElem (by omega)⟩
              have x0 := (HB.out.cell (p := ⟨s2, o2 + m, none⟩) hs2).trans (HC2.out m a ha)
              have M0 : (0 : Int) ≤ ((m : Nat) : Int) := by omega
              have M1 : ((m : Nat) : Int) < ((j : Nat) : Int) := by omega
              have HN : Hid (putP A a b true = puts n (ordAll ls k ++ ordIn l j ++ ordRow l j (m + 1))) := by
                rw [Hid, ordRow_succ ha HBX.out, ← List.append_assoc, puts_snoc, ← HA.out]
              clear ha
              go_wp2_with fail
              refine (Put_calls b2 c2 A a b true wr HI.out).mono ?_
              rintro e w4 ⟨rfl, hI4, ht4⟩
              go_wp2_with fail
              go_roundg (j - (m + 1))
              case measure => have := HMF.out; omega
              case rel => exact ⟨m + 1, _, by go_num, by omega, by have := HMF.out; rw [Hid]; omega, hI4, HN.out, HB.out.trans (ht4.below hc2 HB.out.size)⟩
            · obtain rfl : m = j := by omega
              go_wp2_with fail
              go_roundg (l.length - (m + 1))
              case measure => have := HJF.out; omega
              case rel => exact ⟨m + 1, A, by go_num, by omega, by have := HJF.out; rw [Hid]; omega, HI.out, (by rw [Hid, ordIn_succ, ← List.append_assoc]; exact HA.out), HB.out⟩
        · obtain rfl : j = l.length := by omega
          go_wp2_with fail
          go_roundg (ls.length - (k + 1))
          case measure => have := HKF.out; omega
          case rel => exact ⟨k + 1, A, by go_num, by omega, by have := HKF.out; rw [Hid]; omega, HI.out, (by rw [Hid, ordAll_succ HLX.out]; exact HA.out), HB.out⟩
    · obtain rfl : k = ls.length := by omega
      go_wp2_with fail
      go_ret
      exact ⟨b2, c2, A, rfl, ⟨HI.out, hb2, hc2, HB.out⟩, by rw [HA.out]; exact puts_twr n _⟩
end Go.Proofs.YtlmjdhmgfkognaaDoor
/- slices.Equal at numbers. -/
namespace Go.Proofs.YtlmjdhmgfkognaaDoor
open Go.RowKit Go.Shelf Sx

theorem intsR_form {w : World} {v : Value} {l : List Int} (h : IntsR w v l) : ∃ p cap, v = .slice p l.length cap ∧ (0 < l.length → ∃ s o, p = some ⟨s, o, none⟩ ∧ s < w.heap.size ∧ ∀ (i : Nat) (x : Int), l[i]? = some x → w.cell? ⟨s, o + i, none⟩ = some (.int .i64 x)) := by
  rcases h with ⟨a, cap, rfl, rfl⟩ | ⟨s, o, cap, rfl, h1, h2⟩
  · exact ⟨_, _, rfl, fun h => by simp at h⟩
  · exact ⟨_, _, rfl, fun _ => ⟨s, o, rfl, h1, h2⟩⟩
set_option linter.unusedSimpArgs false in
set_option maxRecDepth 100000 in
set_option maxHeartbeats 4000000 in
theorem slEqualI_calls (u v : Value) (l m : List Int) (w : World) (h1 : IntsR w u l) (h2 : IntsR w v m) (hl : l.length ≤ 9223372036854775807) :
    Calls Tryd.prog 68 #[u, v] w fun r w' => r = .returned (.bool (decide (l = m))) ∧ Below w.heap.size w w' := by
  obtain ⟨p1, c1, rfl, hp1⟩ := intsR_form h1
  obtain ⟨p2, c2, rfl, hp2⟩ := intsR_form h2
  have HP1 := hid_of hp1
  have HP2 := hid_of hp2
  generalize hr : decide (l = m) = r
  have HR := hid_of hr
  clear hp1 hp2 h1 h2 hr
  go_enter Tryd.func68, Tryd.ntmps68
  by_cases hlm : l.length = m.length
  · rw [← hlm]
    go_wp2_with fail
    go_loopg [13] l.length (fun f i wr => ∃ k : Nat, i = .int .i64 ((k : Nat) : Int) ∧ k ≤ l.length ∧ Hid (k + f = l.length) ∧ Hid (∀ j, j < k → l[j]? = m[j]?) ∧ Hid (Below w.heap.size w wr))
    case atStart => exact ⟨0, rfl, Nat.zero_le _, Nat.zero_add _, (fun j h => by omega), Below.refl _ _⟩
    case round =>
      obtain ⟨k, rfl, hk, HKF, HALL, HB⟩ := hrel
      by_cases hkl : k < l.length
      · obtain ⟨s1, o1, rfl, hs1, k1⟩ := HP1.out (by omega)
        obtain ⟨s2, o2, rfl, hs2, k2⟩ := HP2.out (by omega)
        obtain ⟨x, hx⟩ : ∃ x, l[k]? = some x := ⟨_, List.getElem?_eq_getElem hkl⟩
        obtain ⟨y, hy⟩ : ∃ y, m[k]? = some y := ⟨_, List.getElem?_eq_getElem (by omega)⟩
        have x0 := (HB.out.cell (p := ⟨s1, o1 + k, none⟩) hs1).trans (k1 k x hx)
        have y0 := (HB.out.cell (p := ⟨s2, o2 + k, none⟩) hs2).trans (k2 k y hy)
        have K0 : (0 : Int) ≤ ((k : Nat) : Int) := by omega
        have K1 : ((k : Nat) : Int) < ((l.length : Nat) : Int) := by omega
        have HX := hid_of hx
        have HY := hid_of hy
        clear k1 k2 hx hy
        by_cases hxy : x = y
        · subst hxy
          have q1 : ((x : Int) != x) = false := by simp
          go_upto_region 6 with fail
          go_quiet (fail)
          go_wp2_with fail
          go_roundg (l.length - (k + 1))
          case measure => have := HKF.out; omega
          case rel =>
            refine ⟨k + 1, by go_num, by omega, by have := HKF.out; rw [Hid]; omega, fun j hj => ?_, below_drewN HB.out _⟩
            by_cases e : j = k
            · subst e; rw [HX.out, HY.out]
            · exact HALL.out j (by omega)
        · have q1 : ((x : Int) != y) = true := by simp [hxy]
          obtain rfl : r = false := by
            rw [← HR.out]
            exact decide_eq_false (fun e => hxy (by have := HX.out; rw [e, HY.out] at this; exact (Option.some.inj this).symm))
          go_upto_region 6 with fail
          go_quiet (fail)
          go_wp2_with fail
          go_ret
          exact ⟨rfl, below_drewN HB.out _⟩
      · obtain rfl : k = l.length := by omega
        obtain rfl : r = true := by
          rw [← HR.out]
          refine decide_eq_true (List.ext_getElem? (fun j => ?_))
          by_cases hj : j < l.length
          · exact HALL.out j hj
          · rw [List.getElem?_eq_none (by omega), List.getElem?_eq_none (by omega)]
        go_wp2_with fail
        go_ret
        exact ⟨rfl, HB.out⟩
  · have q0 : ((((l.length : Nat) : Int)) != ((m.length : Nat) : Int)) = true := by rw [bne_iff_ne]; omega
    obtain rfl : r = false := by
      rw [← HR.out]
      exact decide_eq_false (fun e => hlm (by rw [e]))
    go_wp2_with fail
    go_ret
    exact ⟨rfl, Below.refl _ _⟩
end Go.Proofs.YtlmjdhmgfkognaaDoor
