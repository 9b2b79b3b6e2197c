/- The statements' own 'some': the pairs that are kept. -/
import Derived.Test.YtmmadkghojoniaaGreatDoorJ21
import Derived.Test.YtmmadkghojoniaaGreatDoorJ26
import Derived.Test.YtmmadkghojoniaaGreatDoorJ35
import Derived.Test.YtmmadkghojoniaaGreatDoorJ09
namespace Go.Proofs.YtmmadkghojoniaaGreatDoor
open Go.RowKit Go.Shelf Sx
def keepB (ks : List Bool) (i : Nat) : Bool := if i < ks.length then ks.getD i false else true
def someK (l : List (Int × Int)) (ks : List Bool) (k : Nat) : List (Int × Int) := ((List.range k).filter (keepB ks)).map (fun i => l.getD i (0, 0))
def someL (l : List (Int × Int)) (ks : List Bool) : List (Int × Int) := someK l ks l.length
theorem someK_yes {l : List (Int × Int)} {ks : List Bool} {k : Nat} (h : keepB ks k = true) : someK l ks (k + 1) = someK l ks k ++ [l.getD k (0, 0)] := by
  unfold someK
  rw [List.range_succ, List.filter_append, List.map_append]
  simp [h]
theorem someK_no {l : List (Int × Int)} {ks : List Bool} {k : Nat} (h : keepB ks k = false) : someK l ks (k + 1) = someK l ks k := by
  unfold someK
  rw [List.range_succ, List.filter_append, List.map_append]
  simp [h]
theorem someK_sub (l : List (Int × Int)) (ks : List Bool) : ∀ k, k ≤ l.length → (someK l ks k).Sublist (l.take k)
  | 0, _ => by simp [someK]
  | k + 1, h => by
    have ih := someK_sub l ks k (by omega)
    rw [List.take_succ_eq_append_getElem (show k < l.length by omega)]
    cases hk : keepB ks k
    · rw [someK_no hk]
      exact ih.trans (List.sublist_append_left _ _)
    · rw [someK_yes hk, List.getD_eq_getElem?_getD, List.getElem?_eq_getElem (show k < l.length by omega)]
      exact ih.append (List.Sublist.refl _)
theorem someL_sub (l : List (Int × Int)) (ks : List Bool) : (someL l ks).Sublist l := by
  have := someK_sub l ks l.length (Nat.le_refl _)
  rw [List.take_length] at this
  exact this
theorem encPI_snoc2 (l : List (Int × Int)) (x : Int × Int) : encPI (l ++ [x]) = encPI l ++ [.int .i64 x.1, .int .i64 x.2] := by simp [encPI]
theorem setat_form {w : World} {v : Value} {l : List Bool} (h : SetAt w v l) : ∃ p cap, v = .slice p l.length cap ∧ (0 < l.length → ∃ s o, p = some ⟨s, o, none⟩ ∧ BoolsAt w s o l) := by
  rcases h with ⟨x, cap, rfl, rfl⟩ | ⟨s, o, cap, rfl, h⟩
  · exact ⟨x, cap, rfl, fun h => by simp at h⟩
  · exact ⟨_, cap, rfl, fun _ => ⟨s, o, rfl, h⟩⟩
structure SmAt (w W : World) (v : Value) (l : List (Int × Int)) : Prop where
  below : Below w.heap.size w W
  own : W.ownsRow w.heap.size 30 2 v l.length (encPI l)
theorem SmAt.more {w W W' : World} {v v' : Value} {l : List (Int × Int)} {x : Int × Int} (h : SmAt w W v l)
    (hown : W'.ownsRow w.heap.size 30 2 v' (l.length + 1) (encPI l ++ [.int .i64 x.1, .int .i64 x.2]))
    (hg : (W.alloc (.cells #[.int .i64 x.1, .int .i64 x.2] 30)).grownBy W' v.ownBlock) : SmAt w W' v' (l ++ [x]) := by
  refine ⟨(h.below.alloc h.below.size _).grown hg (by have := h.below.size; simp; omega) (fun k e => (h.own.lt k e).1), ?_⟩
  rw [encPI_snoc2, List.length_append]
  exact hown
set_option linter.unusedSimpArgs false in
set_option maxRecDepth 100000 in
set_option maxHeartbeats 8000000 in
theorem l11some_calls (vl vk : Value) (l : List (Int × Int)) (ks : List Bool) (w : World) (hl : PArg w vl l) (hk : SetAt w vk ks) (hb : l.length * 16 ≤ 140737488355328) (hkl : ks.length ≤ 9223372036854775807) :
    Calls Tryz.prog 27 #[vl, vk] w fun e w' => ∃ v, e = .returned v ∧ w'.ownsRow w.heap.size 30 2 v (someL l ks).length (encPI (someL l ks)) ∧ Below w.heap.size w w' := by
  obtain ⟨i0, hi, hz0, hz1, hz2⟩ := info_parts Tryz.infopair
  have HL := hid_of hl
  have HK := hid_of hk
  obtain ⟨p, c, rfl, -⟩ := parg_form hl
  obtain ⟨pk, ck, rfl, -⟩ := setat_form hk
  clear hl hk
  have hA : SmAt w w (.slice none 0 0) [] := ⟨Below.refl _ _, World.ownsRow_nil _ _ _ _⟩
  go_enter Tryz.func27, Tryz.ntmps27
  go_wp2_with fail
  go_loopw [5, 6] (fun v i wr => ∃ k xs, k ≤ l.length ∧ i = .int .i64 ((k : Nat) : Int) ∧ SmAt w wr v xs ∧ Hid (xs = someK l ks k) ∧ xs.length ≤ k) (fun _ i _ => l.length - (intOf i).toNat)
  case atStart => exact ⟨0, [], by omega, rfl, hA, rfl, by simp⟩
  case round =>
    clear hA
    obtain ⟨k, xs, hkl2, rfl, hA, HX, hlen⟩ := hrel
    by_cases hlt : k < l.length
    · obtain ⟨x, hx⟩ : ∃ x, l[k]? = some x := ⟨_, List.getElem?_eq_getElem hlt⟩
      have hgd : l.getD k (0, 0) = x := by rw [List.getD_eq_getElem?_getD, hx]; rfl
      obtain ⟨p2, c2, e2, hat0, _⟩ := parg_form (HL.out.below hA.below)
      obtain ⟨s, o, rfl, hat⟩ := hat0 (by omega)
      injection e2 with e3 e4 e5
      subst e3
      have x0 := hat.fst k _ hx
      have x1 := hat.snd k _ hx
      have K0 : (0 : Int) ≤ ((k : Nat) : Int) := by omega
      have K1 : ((k : Nat) : Int) < ((l.length : Nat) : Int) := by omega
      clear hat hat0 hx e4 e5
      have yes : Hid (keepB ks k = true → xs ++ [x] = someK l ks (k + 1)) := fun h => by rw [someK_yes h, ← HX.out, hgd]
      have no : Hid (keepB ks k = false → xs = someK l ks (k + 1)) := fun h => by rw [someK_no h, ← HX.out]
      clear hgd
      by_cases hkk : k < ks.length
      · have Q1 : decide (((k : Nat) : Int) ≥ ((ks.length : Nat) : Int)) = false := by simp; omega
        have Q2 : ((k : Nat) : Int) < ((ks.length : Nat) : Int) := by omega
        obtain ⟨b, hb2⟩ : ∃ b, ks[k]? = some b := ⟨_, List.getElem?_eq_getElem hkk⟩
        have hkb : keepB ks k = b := by unfold keepB; rw [if_pos hkk, List.getD_eq_getElem?_getD, hb2]; rfl
        have HKB := hid_of hkb
        obtain ⟨p3, c3, e3, hbt0⟩ := setat_form (SetAt.below HK.out hA.below)
        obtain ⟨sk, ok, rfl, hbt⟩ := hbt0 (by omega)
        injection e3 with e6 e7 e8
        subst e6
        have xb := hbt.cell k b hb2
        clear hkb hbt hbt0 hb2 e7 e8
        cases b
        · have HN : Hid (xs = someK l ks (k + 1)) := no.out HKB.out
          clear yes no HKB
          go_wp2_with fail
          refine ⟨⟨k + 1, xs, by omega, by go_num, hA, HN, by omega⟩, by simp [intOf]; omega⟩
        · have HN : Hid (xs ++ [x] = someK l ks (k + 1)) := yes.out HKB.out
          clear yes no HKB
          go_wp2_with (at_builtin; refine wpList_append_own_at _ rfl _ _ 24 rfl w.heap.size 30 i0 (.agg #[.int .i64 0, .int .i64 0]) 2 16 Tryz.underlying24 hi hz0 hz1 hz2 rfl (by decide) _ _ _ rfl (hA.own.alloc _) ⟨_, 0, none⟩ 1 1 [.int .i64 x.1, .int .i64 x.2] rfl rfl (news_two _ _ _ _) (by simp [Value.oneCell']) (by unfold maxLen; omega) (by omega) (by have := hA.below.size; simp; omega) ?_; intro v' w4 hown' hgrow _ hat)
          have hA2 := hA.more hown' hgrow
          refine ⟨⟨k + 1, xs ++ [x], by omega, by go_num, hA2, HN, by simp; omega⟩, by simp [intOf]; omega⟩
      · have Q1 : decide (((k : Nat) : Int) ≥ ((ks.length : Nat) : Int)) = true := by simp; omega
        have HN : Hid (xs ++ [x] = someK l ks (k + 1)) := yes.out (by unfold keepB; rw [if_neg hkk])
        clear yes no
        go_wp2_with (at_builtin; refine wpList_append_own_at _ rfl _ _ 24 rfl w.heap.size 30 i0 (.agg #[.int .i64 0, .int .i64 0]) 2 16 Tryz.underlying24 hi hz0 hz1 hz2 rfl (by decide) _ _ _ rfl (hA.own.alloc _) ⟨_, 0, none⟩ 1 1 [.int .i64 x.1, .int .i64 x.2] rfl rfl (news_two _ _ _ _) (by simp [Value.oneCell']) (by unfold maxLen; omega) (by omega) (by have := hA.below.size; simp; omega) ?_; intro v' w4 hown' hgrow _ hat)
        have hA2 := hA.more hown' hgrow
        refine ⟨⟨k + 1, xs ++ [x], by omega, by go_num, hA2, HN, by simp; omega⟩, by simp [intOf]; omega⟩
    · obtain rfl : k = l.length := by omega
      have ho := hA.own
      rw [HX.out] at ho
      clear HX
      go_wp2_with fail
      go_ret
      exact ⟨_, rfl, ho, hA.below⟩
end Go.Proofs.YtmmadkghojoniaaGreatDoor
