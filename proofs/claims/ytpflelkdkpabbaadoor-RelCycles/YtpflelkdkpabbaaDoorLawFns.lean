/- The contracts of the statements' own helpers: ints, truths, pairs. -/
import Derived.Test.YtpflelkdkpabbaaDoorImageWalk
import Derived.Test.YtpflelkdkpabbaaDoorCycWalk
namespace Go.Proofs.YtpflelkdkpabbaaDoor
open Go.RowKit Go.Shelf Sx

/-- A slice of numbers, or nil, read as a list. -/
def IntsAt (w : World) (v : Value) (l : List Int) : Prop := (v = .slice none 0 0 ∧ l = []) ∨ ∃ s o cap, v = .slice (some ⟨s, o, none⟩) l.length cap ∧ s < w.heap.size ∧ ∀ (i : Nat) (x : Int), l[i]? = some x → w.cell? ⟨s, o + i, none⟩ = some (.int .i64 x)
theorem owns_ints {w : World} {base : Nat} {v : Value} {l : List Nat} (h : w.ownsRow base 3 1 v l.length (encI l)) : IntsAt w v (l.map (fun x => ((x : Nat) : Int))) := by
  rcases h.2 with ⟨e, e2⟩ | ⟨g, cap, cur, e, _, hb, _, _, _, ht⟩
  · left
    refine ⟨e, ?_⟩
    rw [List.eq_nil_of_length_eq_zero e2]; rfl
  · right
    refine ⟨g, 0, cap, by rw [List.length_map]; exact e, (Array.getElem?_eq_some_iff.1 hb).1, ?_⟩
    intro i x hx
    have hk : Blk w g 3 cur := hb
    rw [Nat.zero_add]
    apply hk.cell
    rw [List.getElem?_map] at hx
    cases hl : l[i]? with
    | none => rw [hl] at hx; cases hx
    | some y =>
      rw [hl] at hx
      simp at hx
      have hi : i < l.length := (List.getElem?_eq_some_iff.1 hl).1
      have : (encI l)[i]? = some (.int .i64 x) := by simp [encI, hl, hx]
      rw [← ht, List.getElem?_take_of_lt (by omega)] at this
      simpa using this
theorem IntsAt.below {w w' : World} {v : Value} {l : List Int} (h : IntsAt w v l) (hb : Below w.heap.size w w') : IntsAt w' v l := by
  rcases h with h | ⟨s, o, cap, h1, h2, h3⟩
  · exact .inl h
  · exact .inr ⟨s, o, cap, h1, Nat.lt_of_lt_of_le h2 hb.size, fun i x hx => (hb.cell (p := ⟨s, o + i, none⟩) h2).trans (h3 i x hx)⟩
theorem getElem?_all_eq {α : Type} [DecidableEq α] {a b : List α} (hl : a.length = b.length) (h : ∀ i, i < a.length → a[i]? = b[i]?) : a = b := by
  apply List.ext_getElem?
  intro i
  by_cases hi : i < a.length
  · exact h i hi
  · rw [List.getElem?_eq_none (by omega), List.getElem?_eq_none (by omega)]

set_option maxHeartbeats 2000000 in
theorem ints_calls (v1 v2 : Value) (a b : List Int) (w : World) (h1 : IntsAt w v1 a) (h2 : IntsAt w v2 b) (hm : a.length ≤ 100000) (hm2 : b.length ≤ 100000) :
    Calls Tryd.prog 41 #[v1, v2] w fun e w' => e = .returned (.bool (a == b)) ∧ Below w.heap.size w w' := by
  have n1 : ∃ p1 c1, v1 = .slice p1 a.length c1 := by
    rcases h1 with ⟨rfl, rfl⟩ | ⟨s, o, cap, rfl, _⟩
    · exact ⟨_, _, rfl⟩
    · exact ⟨_, _, rfl⟩
  have n2 : ∃ p1 c1, v2 = .slice p1 b.length c1 := by
    rcases h2 with ⟨rfl, rfl⟩ | ⟨s, o, cap, rfl, _⟩
    · exact ⟨_, _, rfl⟩
    · exact ⟨_, _, rfl⟩
  by_cases hl : a.length = b.length
  · by_cases h0 : a.length = 0
    · have ea : a = [] := List.eq_nil_of_length_eq_zero h0
      have eb : b = [] := List.eq_nil_of_length_eq_zero (by omega)
      subst ea; subst eb
      obtain ⟨p1, c1, rfl⟩ := n1
      obtain ⟨p2, c2, rfl⟩ := n2
      clear h1 h2
      go_enter Tryd.func41, Tryd.ntmps41
      go_wp2_with fail
      go_loopw [5] (fun i wr => i = .int .i64 0 ∧ w = wr) (fun _ _ => 0)
      case atStart => exact ⟨rfl, rfl⟩
      case round =>
        obtain ⟨rfl, rfl⟩ := hrel
        go_wp2_with fail
        go_ret
        exact ⟨rfl, Below.refl _ _⟩
    · obtain ⟨s1, o1, c1, rfl, l1, k1⟩ : ∃ s o cap, v1 = .slice (some ⟨s, o, none⟩) a.length cap ∧ s < w.heap.size ∧ ∀ (i : Nat) (x : Int), a[i]? = some x → w.cell? ⟨s, o + i, none⟩ = some (.int .i64 x) := by
        rcases h1 with ⟨_, e⟩ | h
        · rw [e] at h0; exact absurd rfl h0
        · exact h
      obtain ⟨s2, o2, c2, rfl, l2, k2⟩ : ∃ s o cap, v2 = .slice (some ⟨s, o, none⟩) b.length cap ∧ s < w.heap.size ∧ ∀ (i : Nat) (x : Int), b[i]? = some x → w.cell? ⟨s, o + i, none⟩ = some (.int .i64 x) := by
        rcases h2 with ⟨_, e⟩ | h
        · rw [e] at hl; exact absurd hl h0
        · exact h
      have HL : Hid (a.length = b.length) := hl
      have hn : ((a.length : Int) != (b.length : Int)) = false := by rw [hl]; simp
      clear hl h0 h1 h2 n1 n2
      go_enter Tryd.func41, Tryd.ntmps41
      go_wp2_with fail
      go_loopw [5] (fun i wr => ∃ k : Nat, k ≤ a.length ∧ i = .int .i64 k ∧ Hid (∀ i, i < k → a[i]? = b[i]?) ∧ Below w.heap.size w wr) (fun i _ => a.length - (intOf i).toNat)
      case atStart => exact ⟨0, by omega, rfl, fun i h => by omega, Below.refl _ _⟩
      case round =>
        obtain ⟨k, hk, rfl, HC, hB⟩ := hrel
        by_cases hlt : k < a.length
        · have hltB : k < b.length := by rw [← HL.out]; exact hlt
          obtain ⟨x, hx⟩ : ∃ x, a[k]? = some x := ⟨_, List.getElem?_eq_getElem hlt⟩
          obtain ⟨y, hy⟩ : ∃ y, b[k]? = some y := ⟨_, List.getElem?_eq_getElem hltB⟩
          have x0 := (hB.cell (p := ⟨s1, o1 + k, none⟩) l1).trans (k1 k x hx)
          have y0 := (hB.cell (p := ⟨s2, o2 + k, none⟩) l2).trans (k2 k y hy)
          have HX := hid_of hx
          have HY := hid_of hy
          clear hx hy
          cases hq : (x != y)
          · have Hq : Hid (x = y) := by show x = y; simpa using hq
            go_wp2_with fail
            go_region
            all_goals
              go_wp2_with fail
              refine ⟨⟨k + 1, by omega, by go_num, ?_, hB.drew⟩, by simp [intOf]; omega⟩
              intro i hi
              by_cases e : i = k
              · rw [e, HX.out, HY.out, Hq.out]
              · exact HC.out i (by omega)
          · have Hq : Hid (¬ x = y) := by show ¬ x = y; simpa using hq
            go_wp2_with fail
            go_region
            all_goals
              go_wp2_with fail
              go_ret
              refine ⟨?_, hB.drew⟩
              have : (a == b) = false := by
                apply Bool.eq_false_iff.2
                intro e
                have e := eq_of_beq e
                have h3 := HX.out
                rw [e, HY.out] at h3
                exact Hq.out (Option.some.inj h3).symm
              rw [this]; rfl
        · obtain rfl : k = a.length := by omega
          go_wp2_with fail
          go_ret
          refine ⟨?_, hB⟩
          rw [getElem?_all_eq HL.out HC.out]; simp
  · obtain ⟨p1, c1, rfl⟩ := n1
    obtain ⟨p2, c2, rfl⟩ := n2
    have HL : Hid (¬ a.length = b.length) := hl
    have hn : ((a.length : Int) != (b.length : Int)) = true := by rw [bne_iff_ne]; omega
    clear hl h1 h2
    go_enter Tryd.func41, Tryd.ntmps41
    go_wp2_with fail
    go_ret
    refine ⟨?_, Below.refl _ _⟩
    have : (a == b) = false := by
      apply Bool.eq_false_iff.2
      intro e
      rw [eq_of_beq e] at HL
      exact HL.out rfl
    rw [this]; rfl
/-- A slice of truths, or nil, read as a list. -/
def SetAt2 (w : World) (v : Value) (l : List Bool) : Prop := (v = .slice none 0 0 ∧ l = []) ∨ ∃ s o cap, v = .slice (some ⟨s, o, none⟩) l.length cap ∧ s < w.heap.size ∧ ∀ (i : Nat) (x : Bool), l[i]? = some x → w.cell? ⟨s, o + i, none⟩ = some (.bool x)
theorem owns_bools {w : World} {base : Nat} {v : Value} {l : List Bool} (h : w.ownsRow base 4 1 v l.length (l.map Value.bool)) : SetAt2 w v l := by
  rcases h.2 with ⟨e, e2⟩ | ⟨g, cap, cur, e, _, hb, _, _, _, ht⟩
  · left
    exact ⟨e, List.eq_nil_of_length_eq_zero e2⟩
  · right
    refine ⟨g, 0, cap, e, (Array.getElem?_eq_some_iff.1 hb).1, ?_⟩
    intro i x hx
    have hk : Blk w g 4 cur := hb
    rw [Nat.zero_add]
    apply hk.cell
    have hi : i < l.length := (List.getElem?_eq_some_iff.1 hx).1
    have : (l.map Value.bool)[i]? = some (.bool x) := by simp [hx]
    rw [← ht, List.getElem?_take_of_lt (by omega)] at this
    simpa using this
set_option maxHeartbeats 2000000 in
theorem truths_calls (v1 v2 : Value) (a b : List Bool) (w : World) (h1 : SetAt2 w v1 a) (h2 : SetAt2 w v2 b) (hm : a.length ≤ 100000) (hm2 : b.length ≤ 100000) :
    Calls Tryd.prog 19 #[v1, v2] w fun e w' => e = .returned (.bool (a == b)) ∧ Below w.heap.size w w' := by
  have n1 : ∃ p1 c1, v1 = .slice p1 a.length c1 := by
    rcases h1 with ⟨rfl, rfl⟩ | ⟨s, o, cap, rfl, _⟩
    · exact ⟨_, _, rfl⟩
    · exact ⟨_, _, rfl⟩
  have n2 : ∃ p1 c1, v2 = .slice p1 b.length c1 := by
    rcases h2 with ⟨rfl, rfl⟩ | ⟨s, o, cap, rfl, _⟩
    · exact ⟨_, _, rfl⟩
    · exact ⟨_, _, rfl⟩
  by_cases hl : a.length = b.length
  · by_cases h0 : a.length = 0
    · have ea : a = [] := List.eq_nil_of_length_eq_zero h0
      have eb : b = [] := List.eq_nil_of_length_eq_zero (by omega)
      subst ea; subst eb
      obtain ⟨p1, c1, rfl⟩ := n1
      obtain ⟨p2, c2, rfl⟩ := n2
      clear h1 h2
      go_enter Tryd.func19, Tryd.ntmps19
      go_wp2_with fail
      go_loopw [5] (fun i wr => i = .int .i64 0 ∧ w = wr) (fun _ _ => 0)
      case atStart => exact ⟨rfl, rfl⟩
      case round =>
        obtain ⟨rfl, rfl⟩ := hrel
        go_wp2_with fail
        go_ret
        exact ⟨rfl, Below.refl _ _⟩
    · obtain ⟨s1, o1, c1, rfl, l1, k1⟩ : ∃ s o cap, v1 = .slice (some ⟨s, o, none⟩) a.length cap ∧ s < w.heap.size ∧ ∀ (i : Nat) (x : Bool), a[i]? = some x → w.cell? ⟨s, o + i, none⟩ = some (.bool x) := by
        rcases h1 with ⟨_, e⟩ | h
        · rw [e] at h0; exact absurd rfl h0
        · exact h
      obtain ⟨s2, o2, c2, rfl, l2, k2⟩ : ∃ s o cap, v2 = .slice (some ⟨s, o, none⟩) b.length cap ∧ s < w.heap.size ∧ ∀ (i : Nat) (x : Bool), b[i]? = some x → w.cell? ⟨s, o + i, none⟩ = some (.bool x) := by
        rcases h2 with ⟨_, e⟩ | h
        · rw [e] at hl; exact absurd hl h0
        · exact h
      have HL : Hid (a.length = b.length) := hl
      have hn : ((a.length : Int) != (b.length : Int)) = false := by rw [hl]; simp
      clear hl h0 h1 h2 n1 n2
      go_enter Tryd.func19, Tryd.ntmps19
      go_wp2_with fail
      go_loopw [5] (fun i wr => ∃ k : Nat, k ≤ a.length ∧ i = .int .i64 k ∧ Hid (∀ i, i < k → a[i]? = b[i]?) ∧ Below w.heap.size w wr) (fun i _ => a.length - (intOf i).toNat)
      case atStart => exact ⟨0, by omega, rfl, fun i h => by omega, Below.refl _ _⟩
      case round =>
        obtain ⟨k, hk, rfl, HC, hB⟩ := hrel
        by_cases hlt : k < a.length
        · have hltB : k < b.length := by rw [← HL.out]; exact hlt
          obtain ⟨x, hx⟩ : ∃ x, a[k]? = some x := ⟨_, List.getElem?_eq_getElem hlt⟩
          obtain ⟨y, hy⟩ : ∃ y, b[k]? = some y := ⟨_, List.getElem?_eq_getElem hltB⟩
          have x0 := (hB.cell (p := ⟨s1, o1 + k, none⟩) l1).trans (k1 k x hx)
          have y0 := (hB.cell (p := ⟨s2, o2 + k, none⟩) l2).trans (k2 k y hy)
          have HX := hid_of hx
          have HY := hid_of hy
          clear hx hy
          cases hq : (!x == y)
          · have Hq : Hid (x = y) := by show x = y; simpa using hq
            go_wp2_with fail
            go_region
            all_goals
              go_wp2_with fail
              refine ⟨⟨k + 1, by omega, by go_num, ?_, hB.drew⟩, by simp [intOf]; omega⟩
              intro i hi
              by_cases e : i = k
              · rw [e, HX.out, HY.out, Hq.out]
              · exact HC.out i (by omega)
          · have Hq : Hid (¬ x = y) := by show ¬ x = y; simpa using hq
            go_wp2_with fail
            go_region
            all_goals
              go_wp2_with fail
              go_ret
              refine ⟨?_, hB.drew⟩
              have : (a == b) = false := by
                apply Bool.eq_false_iff.2
                intro e
                have e := eq_of_beq e
                have h3 := HX.out
                rw [e, HY.out] at h3
                exact Hq.out (Option.some.inj h3).symm
              rw [this]; rfl
        · obtain rfl : k = a.length := by omega
          go_wp2_with fail
          go_ret
          refine ⟨?_, hB⟩
          rw [getElem?_all_eq HL.out HC.out]; simp
  · obtain ⟨p1, c1, rfl⟩ := n1
    obtain ⟨p2, c2, rfl⟩ := n2
    have HL : Hid (¬ a.length = b.length) := hl
    have hn : ((a.length : Int) != (b.length : Int)) = true := by rw [bne_iff_ne]; omega
    clear hl h1 h2
    go_enter Tryd.func19, Tryd.ntmps19
    go_wp2_with fail
    go_ret
    refine ⟨?_, Below.refl _ _⟩
    have : (a == b) = false := by
      apply Bool.eq_false_iff.2
      intro e
      rw [eq_of_beq e] at HL
      exact HL.out rfl
    rw [this]; rfl
/-- A slice of pairs, or nil, read as a list. -/
def PrsAt (w : World) (v : Value) (l : List (Int × Int)) : Prop := (v = .slice none 0 0 ∧ l = []) ∨ ∃ s o cap, v = .slice (some ⟨s, o, none⟩) l.length cap ∧ s < w.heap.size ∧ ∀ (i : Nat) (x : Int × Int), l[i]? = some x → w.cell? ⟨s, o + i * 2, none⟩ = some (.int .i64 x.1) ∧ w.cell? ⟨s, o + i * 2 + 1, none⟩ = some (.int .i64 x.2)
set_option maxHeartbeats 2000000 in
theorem pairs_calls (v1 v2 : Value) (a b : List (Int × Int)) (w : World) (h1 : PrsAt w v1 a) (h2 : PrsAt w v2 b) (hm : a.length ≤ 100000) (hm2 : b.length ≤ 100000) :
    Calls Tryd.prog 9 #[v1, v2] w fun e w' => e = .returned (.bool (a == b)) ∧ Below w.heap.size w w' := by
  have n1 : ∃ p1 c1, v1 = .slice p1 a.length c1 := by
    rcases h1 with ⟨rfl, rfl⟩ | ⟨s, o, cap, rfl, _⟩
    · exact ⟨_, _, rfl⟩
    · exact ⟨_, _, rfl⟩
  have n2 : ∃ p1 c1, v2 = .slice p1 b.length c1 := by
    rcases h2 with ⟨rfl, rfl⟩ | ⟨s, o, cap, rfl, _⟩
    · exact ⟨_, _, rfl⟩
    · exact ⟨_, _, rfl⟩
  by_cases hl : a.length = b.length
  · by_cases h0 : a.length = 0
    · have ea : a = [] := List.eq_nil_of_length_eq_zero h0
      have eb : b = [] := List.eq_nil_of_length_eq_zero (by omega)
      subst ea; subst eb
      obtain ⟨p1, c1, rfl⟩ := n1
      obtain ⟨p2, c2, rfl⟩ := n2
      clear h1 h2
      go_enter Tryd.func9, Tryd.ntmps9
      go_wp2_with fail
      go_loopw [5] (fun i wr => i = .int .i64 0 ∧ w = wr) (fun _ _ => 0)
      case atStart => exact ⟨rfl, rfl⟩
      case round =>
        obtain ⟨rfl, rfl⟩ := hrel
        go_wp2_with fail
        go_ret
        exact ⟨rfl, Below.refl _ _⟩
    · obtain ⟨s1, o1, c1, rfl, l1, k1⟩ : ∃ s o cap, v1 = .slice (some ⟨s, o, none⟩) a.length cap ∧ s < w.heap.size ∧ ∀ (i : Nat) (x : Int × Int), a[i]? = some x → w.cell? ⟨s, o + i * 2, none⟩ = some (.int .i64 x.1) ∧ w.cell? ⟨s, o + i * 2 + 1, none⟩ = some (.int .i64 x.2) := by
        rcases h1 with ⟨_, e⟩ | h
        · rw [e] at h0; exact absurd rfl h0
        · exact h
      obtain ⟨s2, o2, c2, rfl, l2, k2⟩ : ∃ s o cap, v2 = .slice (some ⟨s, o, none⟩) b.length cap ∧ s < w.heap.size ∧ ∀ (i : Nat) (x : Int × Int), b[i]? = some x → w.cell? ⟨s, o + i * 2, none⟩ = some (.int .i64 x.1) ∧ w.cell? ⟨s, o + i * 2 + 1, none⟩ = some (.int .i64 x.2) := by
        rcases h2 with ⟨_, e⟩ | h
        · rw [e] at hl; exact absurd hl h0
        · exact h
      have HL : Hid (a.length = b.length) := hl
      have hn : ((a.length : Int) != (b.length : Int)) = false := by rw [hl]; simp
      clear hl h0 h1 h2 n1 n2
      go_enter Tryd.func9, Tryd.ntmps9
      go_wp2_with fail
      go_loopw [5] (fun i wr => ∃ k : Nat, k ≤ a.length ∧ i = .int .i64 k ∧ Hid (∀ i, i < k → a[i]? = b[i]?) ∧ Below w.heap.size w wr) (fun i _ => a.length - (intOf i).toNat)
      case atStart => exact ⟨0, by omega, rfl, fun i h => by omega, Below.refl _ _⟩
      case round =>
        obtain ⟨k, hk, rfl, HC, hB⟩ := hrel
        by_cases hlt : k < a.length
        · have hltB : k < b.length := by rw [← HL.out]; exact hlt
          obtain ⟨⟨xa, xb⟩, hx⟩ : ∃ x, a[k]? = some x := ⟨_, List.getElem?_eq_getElem hlt⟩
          obtain ⟨⟨ya, yb⟩, hy⟩ : ∃ y, b[k]? = some y := ⟨_, List.getElem?_eq_getElem hltB⟩
          have x0 := (hB.cell (p := ⟨s1, o1 + k * 2, none⟩) l1).trans (k1 k _ hx).1
          have x1 := (hB.cell (p := ⟨s1, o1 + k * 2 + 1, none⟩) l1).trans (k1 k _ hx).2
          have y0 := (hB.cell (p := ⟨s2, o2 + k * 2, none⟩) l2).trans (k2 k _ hy).1
          have y1 := (hB.cell (p := ⟨s2, o2 + k * 2 + 1, none⟩) l2).trans (k2 k _ hy).2
          have HX := hid_of hx
          have HY := hid_of hy
          clear hx hy
          have hcase : (xa = ya ∧ xb = yb) ∨ (xa = ya ∧ ¬ xb = yb) ∨ ¬ xa = ya := by omega
          rcases hcase with ⟨rfl, rfl⟩ | ⟨rfl, e2⟩ | e1
          · go_wp2_with fail
            go_region
            all_goals
              go_wp2_with fail
              refine ⟨⟨k + 1, by omega, by go_num, ?_, hB.drew⟩, by simp [intOf]; omega⟩
              intro i hi
              by_cases e : i = k
              · rw [e, HX.out, HY.out]
              · exact HC.out i (by omega)
          · have Hq : Hid (¬ xb = yb) := e2
            go_wp2_with fail
            go_region
            all_goals
              go_wp2_with fail
              go_ret
              refine ⟨?_, hB.drew⟩
              have : (a == b) = false := by
                apply Bool.eq_false_iff.2
                intro e
                have e := eq_of_beq e
                have h3 := HX.out
                rw [e, HY.out] at h3
                injection h3 with h4
                injection h4 with _ h6
                exact Hq.out h6.symm
              rw [this]; rfl
          · have Hq : Hid (¬ (xa = ya ∧ xb = yb)) := fun h => e1 h.1
            go_wp2_with fail
            go_region
            all_goals
              go_wp2_with fail
              go_ret
              refine ⟨?_, hB.drew⟩
              have : (a == b) = false := by
                apply Bool.eq_false_iff.2
                intro e
                have e := eq_of_beq e
                have h3 := HX.out
                rw [e, HY.out] at h3
                injection h3 with h4
                injection h4 with h5 h6
                exact Hq.out ⟨h5.symm, h6.symm⟩
              rw [this]; rfl
        · obtain rfl : k = a.length := by omega
          go_wp2_with fail
          go_ret
          refine ⟨?_, hB⟩
          rw [getElem?_all_eq HL.out HC.out]; simp
  · obtain ⟨p1, c1, rfl⟩ := n1
    obtain ⟨p2, c2, rfl⟩ := n2
    have HL : Hid (¬ a.length = b.length) := hl
    have hn : ((a.length : Int) != (b.length : Int)) = true := by rw [bne_iff_ne]; omega
    clear hl h1 h2
    go_enter Tryd.func9, Tryd.ntmps9
    go_wp2_with fail
    go_ret
    refine ⟨?_, Below.refl _ _⟩
    have : (a == b) = false := by
      apply Bool.eq_false_iff.2
      intro e
      rw [eq_of_beq e] at HL
      exact HL.out rfl
    rw [this]; rfl
theorem owns_pairs {w : World} {base : Nat} {v : Value} {l : List (Nat × Nat)} (h : w.ownsRow base 29 2 v l.length (encPs l)) : PrsAt w v (l.map (fun x => (((x.1 : Nat) : Int), ((x.2 : Nat) : Int)))) := by
  rcases h.2 with ⟨e, e2⟩ | ⟨g, cap, cur, e, _, hb, _, _, _, ht⟩
  · left
    refine ⟨e, ?_⟩
    rw [List.eq_nil_of_length_eq_zero e2]; rfl
  · right
    refine ⟨g, 0, cap, by rw [List.length_map]; exact e, (Array.getElem?_eq_some_iff.1 hb).1, ?_⟩
    intro i x hx
    have hk : Blk w g 29 cur := hb
    rw [List.getElem?_map] at hx
    cases hl : l[i]? with
    | none => rw [hl] at hx; cases hx
    | some y =>
      rw [hl] at hx
      simp at hx
      subst hx
      have hi : i < l.length := (List.getElem?_eq_some_iff.1 hl).1
      have key : ∀ (l : List (Nat × Nat)) (i : Nat) (y : Nat × Nat), l[i]? = some y → (encPs l)[i * 2]? = some (.int .i64 ((y.1 : Nat) : Int)) ∧ (encPs l)[i * 2 + 1]? = some (.int .i64 ((y.2 : Nat) : Int)) := by
        intro l
        induction l with
        | nil => intro i y h; simp at h
        | cons z l ih =>
          intro i y h
          match i with
          | 0 => simp at h; subst h; exact ⟨rfl, rfl⟩
          | i + 1 =>
            have := ih i y (by simpa using h)
            rw [show (i + 1) * 2 = i * 2 + 1 + 1 from by omega]
            exact this
      obtain ⟨k1, k2⟩ := key l i y hl
      rw [← ht, List.getElem?_take_of_lt (by omega)] at k1 k2
      rw [Nat.zero_add]
      exact ⟨hk.cell (by simpa using k1), hk.cell (by simpa using k2)⟩
end Go.Proofs.YtpflelkdkpabbaaDoor
