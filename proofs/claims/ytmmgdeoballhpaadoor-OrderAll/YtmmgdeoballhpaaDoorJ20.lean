/- sextantlaw2.together, where each pair's second stands next behind its first. -/
import Derived.Test.YtmmgdeoballhpaaDoorJ13
import Derived.Deep.LoopGhost
namespace Go.Proofs.YtmmgdeoballhpaaDoor
open Go.RowKit Go.Shelf Sx

theorem parg_form {w : World} {v : Value} {l : List (Int × Int)} (h : PArg w v l) : ∃ p cap, v = .slice p l.length cap ∧ (0 < l.length → ∃ s o, p = some ⟨s, o, none⟩ ∧ PairsAt w s o l) ∧ l.length ≤ 9223372036854775807 := by
  rcases h with ⟨x, cap, rfl, rfl⟩ | ⟨s, o, cap, rfl, h, hl⟩
  · exact ⟨_, _, rfl, (fun h => by simp at h), by simp⟩
  · exact ⟨_, _, rfl, (fun _ => ⟨s, o, rfl, h⟩), hl⟩
set_option maxRecDepth 100000 in
set_option maxHeartbeats 4000000 in
theorem together_calls (v vp : Value) (l : List Int) (ps : List (Int × Int)) (w : World) (h1 : IntsR w v l) (h2 : PArg w vp ps) (hm : l.length ≤ 65536) (ht : ∀ x ∈ ps, ∃ j : Nat, l[j]? = some x.1 ∧ l[j + 1]? = some x.2) :
    Calls Tryd.prog 37 #[v, vp] w fun e w' => e = .returned (.bool true) ∧ Below w.heap.size w w' := by
  obtain ⟨p1, c1, rfl, hp1⟩ := intsR_form h1
  obtain ⟨p2, c2, rfl, hp2, hpl⟩ := parg_form h2
  have HP1 := hid_of hp1
  have HP2 := hid_of hp2
  have HT := hid_of ht
  clear hp1 hp2 h1 h2 ht
  go_enter Tryd.func37, Tryd.ntmps37
  go_wp2_with fail
  go_loopg [5] ps.length (fun f i wr => ∃ k : Nat, i = .int .i64 ((k : Nat) : Int) ∧ k ≤ ps.length ∧ Hid (k + f = ps.length) ∧ Hid (Below w.heap.size w wr))
  case atStart => exact ⟨0, rfl, Nat.zero_le _, Nat.zero_add _, Below.refl _ _⟩
  case round =>
    obtain ⟨k, rfl, hk, HKF, HB⟩ := hrel
    by_cases hlt : k < ps.length
    · obtain ⟨⟨a, b⟩, hx⟩ : ∃ x, ps[k]? = some x := ⟨_, List.getElem?_eq_getElem hlt⟩
      obtain ⟨j0, hj0, hj1⟩ := HT.out (a, b) (List.mem_of_getElem? hx)
      have hj2 : j0 + 1 < l.length := (List.getElem?_eq_some_iff.1 hj1).1
      have HX := hid_of hx
      have HJ0 := hid_of hj0
      have HJ1 := hid_of hj1
      obtain ⟨s2, o2, rfl, k2⟩ := HP2.out (by omega)
      have HK2 := hid_of k2
      have k0 : (0 : Int) ≤ ((k : Nat) : Int) := by omega
      have k1 : ((k : Nat) : Int) < ((ps.length : Nat) : Int) := by omega
      obtain ⟨s1, o1, rfl, l1, k1'⟩ := HP1.out (by omega)
      have HK1 := hid_of k1'
      clear hx hj0 hj1 k2 k1'
      go_wp2_with fail
      go_loopg [6, 7] l.length (fun f q i wr => ∃ (j : Nat) (qb : Bool), q = .bool qb ∧ i = .int .i64 ((j : Nat) : Int) ∧ j + 1 ≤ l.length ∧ Hid (j + f = l.length) ∧ Hid (qb = true ↔ ∃ j', j' < j ∧ l[j']? = some a ∧ l[j' + 1]? = some b) ∧ Hid (Below w.heap.size w wr))
      case atStart => exact ⟨0, false, rfl, rfl, by omega, Nat.zero_add _, ⟨(fun h => by cases h), fun ⟨j', h, _⟩ => by omega⟩, HB.out⟩
      case round =>
        clear HB
        obtain ⟨j, qb, rfl, rfl, hj, HJF, HQ, HB⟩ := hrel
        by_cases hjl : j + 1 < l.length
        · have j0' : (0 : Int) ≤ ((j : Nat) : Int) := by omega
          have j1' : ((j : Nat) : Int) < ((l.length : Nat) : Int) := by omega
          have j2' : ((j : Nat) : Int) + 1 < ((l.length : Nat) : Int) := by omega
          have j3' : (0 : Int) ≤ ((j : Nat) : Int) + 1 := by omega
          have step : ∀ r : Bool, (r = true ↔ qb = true ∨ (l[j]? = some a ∧ l[j + 1]? = some b)) → (r = true ↔ ∃ j', j' < j + 1 ∧ l[j']? = some a ∧ l[j' + 1]? = some b) := fun r hr => by
            rw [hr, HQ.out]
            constructor
            · rintro (⟨j', h1, h2⟩ | h)
              · exact ⟨j', by omega, h2⟩
              · exact ⟨j, by omega, h⟩
            · rintro ⟨j', h1, h2⟩
              by_cases e : j' = j
              · subst e; exact .inr h2
              · exact .inl ⟨j', by omega, h2⟩
          have HST := hid_of step
          clear step
          cases qb
          · obtain ⟨x, hx⟩ : ∃ x, l[j]? = some x := ⟨_, List.getElem?_eq_getElem (by omega)⟩
            obtain ⟨y, hy⟩ : ∃ y, l[j + 1]? = some y := ⟨_, List.getElem?_eq_getElem hjl⟩
            have x0 := (HB.out.cell (p := ⟨s1, o1 + j, none⟩) l1).trans (HK1.out j x hx)
            have y0 : wr.cell? ⟨s1, o1 + (j + 1), none⟩ = some (.int .i64 y) := (HB.out.cell (p := ⟨s1, o1 + (j + 1), none⟩) l1).trans (HK1.out (j + 1) y hy)
            have a0 := (HK2.out.below HB.out).fst k _ HX.out
            have b0 := (HK2.out.below HB.out).snd k _ HX.out
            simp only [] at a0 b0
            by_cases hxa : x = a
            · subst hxa
              have q1 : ((x : Int) == x) = true := by simp
              by_cases hyb : y = b
              · subst hyb
                have q2 : ((y : Int) == y) = true := by simp
                have HS2 := hid_of (HST.out true ⟨fun _ => .inr ⟨hx, hy⟩, fun _ => rfl⟩)
                clear hx hy
                go_wp2_with fail
                go_quiet (fail)
                go_wp2_with fail
                go_roundg (l.length - (j + 1))
                case measure => have := HJF.out; omega
                case rel => exact ⟨j + 1, true, rfl, by go_num, by omega, by have := HJF.out; rw [Hid]; omega, by rw [Hid]; simpa using HS2.out, below_drewN HB.out _⟩
              · have q2 : ((y : Int) == b) = false := by rw [beq_eq_false_iff_ne]; exact hyb
                have HS2 := hid_of (HST.out false ⟨(fun h => by cases h), fun h => by
                  rcases h with h | ⟨_, h⟩
                  · cases h
                  · rw [hy] at h; exact absurd (Option.some.inj h) hyb⟩)
                clear hx hy hyb
                go_wp2_with fail
                go_quiet (fail)
                go_wp2_with fail
                go_roundg (l.length - (j + 1))
                case measure => have := HJF.out; omega
                case rel => exact ⟨j + 1, false, rfl, by go_num, by omega, by have := HJF.out; rw [Hid]; omega, HS2.out, below_drewN HB.out _⟩
            · have q1 : ((x : Int) == a) = false := by rw [beq_eq_false_iff_ne]; exact hxa
              have HS2 := hid_of (HST.out false ⟨(fun h => by cases h), fun h => by
                rcases h with h | ⟨h, _⟩
                · cases h
                · rw [hx] at h; exact absurd (Option.some.inj h) hxa⟩)
              clear hx hy hxa
              go_wp2_with fail
              go_quiet (fail)
              go_wp2_with fail
              go_roundg (l.length - (j + 1))
              case measure => have := HJF.out; omega
              case rel => exact ⟨j + 1, false, rfl, by go_num, by omega, by have := HJF.out; rw [Hid]; omega, HS2.out, below_drewN HB.out _⟩
          · have HS2 := hid_of (HST.out true ⟨fun _ => .inl rfl, fun _ => rfl⟩)
            go_wp2_with fail
            go_quiet (fail)
            go_wp2_with fail
            go_roundg (l.length - (j + 1))
            case measure => have := HJF.out; omega
            case rel => exact ⟨j + 1, true, rfl, by go_num, by omega, by have := HJF.out; rw [Hid]; omega, by rw [Hid]; simpa using HS2.out, below_drewN HB.out _⟩
        · obtain rfl : qb = true := HQ.out.2 ⟨j0, by omega, HJ0.out, HJ1.out⟩
          have t1 : ¬ ((j : Nat) : Int) + 1 < ((l.length : Nat) : Int) := by omega
          go_wp2_with fail
          go_roundg (ps.length - (k + 1))
          case measure => have := HKF.out; omega
          case rel => exact ⟨k + 1, by go_num, by omega, by have := HKF.out; rw [Hid]; omega, HB.out⟩
    · obtain rfl : k = ps.length := by omega
      go_wp2_with fail
      go_ret
      exact ⟨rfl, HB.out⟩
end Go.Proofs.YtmmgdeoballhpaaDoor
/- sextantlaw2.together: what it answers; sextantlaw2.has. -/
namespace Go.Proofs.YtmmgdeoballhpaaDoor
open Go.RowKit Go.Shelf Sx

def Tog (l : List Int) (ps : List (Int × Int)) : Prop := ∀ x ∈ ps, ∃ j : Nat, l[j]? = some x.1 ∧ l[j + 1]? = some x.2
def TogR (w : World) (l : List Int) (ps : List (Int × Int)) (e : Ending) (w' : World) : Prop := ∃ r : Bool, e = .returned (.bool r) ∧ (r = true ↔ Tog l ps) ∧ Below w.heap.size w w'
set_option maxRecDepth 100000 in
set_option maxHeartbeats 4000000 in
theorem togR_calls (v vp : Value) (l : List Int) (ps : List (Int × Int)) (w : World) (h1 : IntsR w v l) (h2 : PArg w vp ps) (hm : l.length ≤ 65536) :
    Calls Tryd.prog 37 #[v, vp] w fun e w' => TogR w l ps e w' := by
  obtain ⟨p1, c1, rfl, hp1⟩ := intsR_form h1
  obtain ⟨p2, c2, rfl, hp2, hpl⟩ := parg_form h2
  have HP1 := hid_of hp1
  have HP2 := hid_of hp2
  clear hp1 hp2 h1 h2
  go_enter Tryd.func37, Tryd.ntmps37
  go_wp2_with fail
  go_loopg [5] ps.length (fun f i wr => ∃ k : Nat, i = .int .i64 ((k : Nat) : Int) ∧ k ≤ ps.length ∧ Hid (k + f = ps.length) ∧ Hid (∀ (i : Nat) (x : Int × Int), i < k → ps[i]? = some x → ∃ j : Nat, l[j]? = some x.1 ∧ l[j + 1]? = some x.2) ∧ Hid (Below w.heap.size w wr))
  case atStart => exact ⟨0, rfl, Nat.zero_le _, Nat.zero_add _, (fun i x hi => by omega), Below.refl _ _⟩
  case round =>
    obtain ⟨k, rfl, hk, HKF, HALL, HB⟩ := hrel
    by_cases hlt : k < ps.length
    · obtain ⟨⟨a, b⟩, hx⟩ : ∃ x, ps[k]? = some x := ⟨_, List.getElem?_eq_getElem hlt⟩
      have HX := hid_of hx
      obtain ⟨s2, o2, rfl, k2⟩ := HP2.out (by omega)
      have HK2 := hid_of k2
      have k0 : (0 : Int) ≤ ((k : Nat) : Int) := by omega
      have k1 : ((k : Nat) : Int) < ((ps.length : Nat) : Int) := by omega
      clear hx k2
      go_wp2_with fail
      go_loopg [6, 7] l.length (fun f q i wr => ∃ (j : Nat) (qb : Bool), q = .bool qb ∧ i = .int .i64 ((j : Nat) : Int) ∧ j ≤ l.length ∧ Hid (j + f = l.length) ∧ Hid (qb = true ↔ ∃ j', j' < j ∧ l[j']? = some a ∧ l[j' + 1]? = some b) ∧ Hid (Below w.heap.size w wr))
      case atStart => exact ⟨0, false, rfl, rfl, Nat.zero_le _, Nat.zero_add _, ⟨(fun h => by cases h), fun ⟨j', h, _⟩ => by omega⟩, HB.out⟩
      case round =>
        clear HB
        obtain ⟨j, qb, rfl, rfl, hj, HJF, HQ, HB⟩ := hrel
        by_cases hjl : j + 1 < l.length
        · obtain ⟨s1, o1, rfl, l1, k1'⟩ := HP1.out (by omega)
          have HK1 := hid_of k1'
          clear k1'
          have j0' : (0 : Int) ≤ ((j : Nat) : Int) := by omega
          have j1' : ((j : Nat) : Int) < ((l.length : Nat) : Int) := by omega
          have j2' : ((j : Nat) : Int) + 1 < ((l.length : Nat) : Int) := by omega
          have j3' : (0 : Int) ≤ ((j : Nat) : Int) + 1 := by omega
          have step : ∀ r : Bool, (r = true ↔ qb = true ∨ (l[j]? = some a ∧ l[j + 1]? = some b)) → (r = true ↔ ∃ j', j' < j + 1 ∧ l[j']? = some a ∧ l[j' + 1]? = some b) := fun r hr => by
            rw [hr, HQ.out]
            constructor
            · rintro (⟨j', h1, h2⟩ | h)
              · exact ⟨j', by omega, h2⟩
              · exact ⟨j, by omega, h⟩
            · rintro ⟨j', h1, h2⟩
              by_cases e : j' = j
              · subst e; exact .inr h2
              · exact .inl ⟨j', by omega, h2⟩
          have HST := hid_of step
          clear step
          cases qb
          · obtain ⟨x, hx⟩ : ∃ x, l[j]? = some x := ⟨_, List.getElem?_eq_getElem (by omega)⟩
            obtain ⟨y, hy⟩ : ∃ y, l[j + 1]? = some y := ⟨_, List.getElem?_eq_getElem hjl⟩
            have x0 := (HB.out.cell (p := ⟨s1, o1 + j, none⟩) l1).trans (HK1.out j x hx)
            have y0 : wr.cell? ⟨s1, o1 + (j + 1), none⟩ = some (.int .i64 y) := (HB.out.cell (p := ⟨s1, o1 + (j + 1), none⟩) l1).trans (HK1.out (j + 1) y hy)
            have a0 := (HK2.out.below HB.out).fst k _ HX.out
            have b0 := (HK2.out.below HB.out).snd k _ HX.out
            simp only [] at a0 b0
            by_cases hxa : x = a
            · subst hxa
              have q1 : ((x : Int) == x) = true := by simp
              by_cases hyb : y = b
              · subst hyb
                have q2 : ((y : Int) == y) = true := by simp
                have HS2 := hid_of (HST.out true ⟨fun _ => .inr ⟨hx, hy⟩, fun _ => rfl⟩)
                clear hx hy
                go_wp2_with fail
                go_quiet (fail)
                go_wp2_with fail
                go_roundg (l.length - (j + 1))
                case measure => have := HJF.out; omega
                case rel => exact ⟨j + 1, true, rfl, by go_num, by omega, by have := HJF.out; rw [Hid]; omega, by rw [Hid]; simpa using HS2.out, below_drewN HB.out _⟩
              · have q2 : ((y : Int) == b) = false := by rw [beq_eq_false_iff_ne]; exact hyb
                have HS2 := hid_of (HST.out false ⟨(fun h => by cases h), fun h => by
                  rcases h with h | ⟨_, h⟩
                  · cases h
                  · rw [hy] at h; exact absurd (Option.some.inj h) hyb⟩)
                clear hx hy hyb
                go_wp2_with fail
                go_quiet (fail)
                go_wp2_with fail
                go_roundg (l.length - (j + 1))
                case measure => have := HJF.out; omega
                case rel => exact ⟨j + 1, false, rfl, by go_num, by omega, by have := HJF.out; rw [Hid]; omega, HS2.out, below_drewN HB.out _⟩
            · have q1 : ((x : Int) == a) = false := by rw [beq_eq_false_iff_ne]; exact hxa
              have HS2 := hid_of (HST.out false ⟨(fun h => by cases h), fun h => by
                rcases h with h | ⟨h, _⟩
                · cases h
                · rw [hx] at h; exact absurd (Option.some.inj h) hxa⟩)
              clear hx hy hxa
              go_wp2_with fail
              go_quiet (fail)
              go_wp2_with fail
              go_roundg (l.length - (j + 1))
              case measure => have := HJF.out; omega
              case rel => exact ⟨j + 1, false, rfl, by go_num, by omega, by have := HJF.out; rw [Hid]; omega, HS2.out, below_drewN HB.out _⟩
          · have HS2 := hid_of (HST.out true ⟨fun _ => .inl rfl, fun _ => rfl⟩)
            go_wp2_with fail
            go_quiet (fail)
            go_wp2_with fail
            go_roundg (l.length - (j + 1))
            case measure => have := HJF.out; omega
            case rel => exact ⟨j + 1, true, rfl, by go_num, by omega, by have := HJF.out; rw [Hid]; omega, by rw [Hid]; simpa using HS2.out, below_drewN HB.out _⟩
        · have t1 : ¬ ((j : Nat) : Int) + 1 < ((l.length : Nat) : Int) := by omega
          have HE : Hid (qb = true ↔ ∃ j' : Nat, l[j']? = some a ∧ l[j' + 1]? = some b) := by
            rw [Hid, HQ.out]
            constructor
            · rintro ⟨j', _, h⟩
              exact ⟨j', h⟩
            · rintro ⟨j', h⟩
              have := (List.getElem?_eq_some_iff.1 h.2).1
              exact ⟨j', by omega, h⟩
          cases qb
          · go_wp2_with fail
            go_ret
            refine ⟨false, rfl, ⟨(fun h => by cases h), fun h => ?_⟩, HB.out⟩
            obtain ⟨j', h'⟩ := h (a, b) (List.mem_of_getElem? HX.out)
            exact HE.out.2 ⟨j', h'⟩
          · go_wp2_with fail
            go_roundg (ps.length - (k + 1))
            case measure => have := HKF.out; omega
            case rel =>
              refine ⟨k + 1, by go_num, by omega, by have := HKF.out; rw [Hid]; omega, fun i x hi hx => ?_, HB.out⟩
              by_cases e : i = k
              · subst e
                rw [HX.out] at hx
                injection hx with hx
                subst hx
                exact HE.out.1 (by first | rfl | trivial)
              · exact HALL.out i x (by omega) hx
    · obtain rfl : k = ps.length := by omega
      go_wp2_with fail
      go_ret
      refine ⟨true, rfl, ⟨fun _ x hx => ?_, fun _ => rfl⟩, HB.out⟩
      obtain ⟨i, hi⟩ := List.getElem?_of_mem hx
      exact HALL.out i x (List.getElem?_eq_some_iff.1 hi).1 hi
set_option maxRecDepth 100000 in
set_option maxHeartbeats 2000000 in
theorem has2_calls (v : Value) (l : List Nat) (p : Nat) (w : World) (h1 : IntsR w v (toI l)) (hm : l.length ≤ 65536) :
    Calls Tryd.prog 36 #[v, .int .i64 ((p : Nat) : Int)] w fun e w' => e = .returned (.bool (l.contains p)) ∧ Below w.heap.size w w' := by
  obtain ⟨p1, c1, rfl, hp1⟩ := intsR_form h1
  rw [toI_length] at hp1 ⊢
  have HP1 := hid_of hp1
  clear hp1 h1
  generalize hr : l.contains p = r
  have HR := hid_of hr
  clear hr
  go_enter Tryd.func36, Tryd.ntmps36
  go_wp2_with fail
  go_loopg [5] l.length (fun f i wr => ∃ k : Nat, i = .int .i64 ((k : Nat) : Int) ∧ k ≤ l.length ∧ Hid (k + f = l.length) ∧ Hid (∀ (i : Nat) (x : Nat), i < k → l[i]? = some x → x ≠ p) ∧ Hid (Below w.heap.size w wr))
  case atStart => exact ⟨0, rfl, Nat.zero_le _, Nat.zero_add _, (fun i x hi => by omega), Below.refl _ _⟩
  case round =>
    obtain ⟨k, rfl, hk, HKF, HALL, HB⟩ := hrel
    by_cases hlt : k < l.length
    · obtain ⟨x, hx⟩ : ∃ x, l[k]? = some x := ⟨_, List.getElem?_eq_getElem hlt⟩
      obtain ⟨s1, o1, rfl, l1, k1'⟩ := HP1.out (by omega)
      have x0 := (HB.out.cell (p := ⟨s1, o1 + k, none⟩) l1).trans (k1' k _ (toI_at hx))
      have k0 : (0 : Int) ≤ ((k : Nat) : Int) := by omega
      have k1 : ((k : Nat) : Int) < ((l.length : Nat) : Int) := by omega
      have HX := hid_of hx
      clear hx k1'
      by_cases e : x = p
      · have q1 : (((x : Nat) : Int) == ((p : Nat) : Int)) = true := by rw [e]; simp
        have er : r = true := by
          rw [← HR.out, List.contains_iff_mem, ← e]
          exact List.mem_of_getElem? HX.out
        subst er
        clear e
        go_wp2_with fail
        go_ret
        exact ⟨rfl, HB.out⟩
      · have q1 : (((x : Nat) : Int) == ((p : Nat) : Int)) = false := by rw [beq_eq_false_iff_ne]; omega
        have HN := hid_of e
        clear e
        go_wp2_with fail
        go_roundg (l.length - (k + 1))
        case measure => have := HKF.out; omega
        case rel =>
          refine ⟨k + 1, by go_num, by omega, by have := HKF.out; rw [Hid]; omega, fun i y hi hy => ?_, HB.out⟩
          by_cases e : i = k
          · subst e
            rw [HX.out] at hy
            injection hy with hy
            subst hy
            exact HN.out
          · exact HALL.out i y (by omega) hy
    · obtain rfl : k = l.length := by omega
      have er : r = false := by
        rw [← HR.out, Bool.eq_false_iff]
        intro hc
        obtain ⟨i, hi⟩ := List.getElem?_of_mem (List.contains_iff_mem.1 hc)
        exact HALL.out i p (List.getElem?_eq_some_iff.1 hi).1 hi rfl
      subst er
      go_wp2_with fail
      go_ret
      exact ⟨rfl, HB.out⟩
end Go.Proofs.YtmmgdeoballhpaaDoor
