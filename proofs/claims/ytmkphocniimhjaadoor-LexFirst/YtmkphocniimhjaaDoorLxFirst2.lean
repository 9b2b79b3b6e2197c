/- The statement LexFirst, walked. -/
import Derived.Test.YtmkphocniimhjaaDoorLxFirst
namespace Go.Proofs.YtmkphocniimhjaaDoor
open Go.RowKit Go.Shelf

theorem lex_empty {e : Flt} (h : lexA ⟨#[]⟩ = .error e) : False := by
  have : lexA ⟨#[]⟩ = .ok [⟨5, ⟨#[]⟩, 0, 1, 1⟩] := by kernel_rfl
  rw [this] at h
  cases h
theorem lexA_line {s : ByteArray} {e : Flt} (h : lexA s = .error e) : 1 ≤ e.line := by
  unfold lexA at h
  split at h
  · cases h
    exact Nat.le_refl _
  · exact lexK_line _ _ _ _ _ _ h
theorem first_math' (s t : ByteArray) (e : Flt) (n : Nat) (hx : lexA s = .error e) (h1 : s.size ≤ 60000) (h2 : t.size ≤ 5000) (h : n ≤ s.size) (hs : n < s.size → byteAt s n = 10 ∧ e.line ≤ lineAt s n) : lexA ⟨(s.data.toList.take n ++ [10] ++ t.data.toList).toArray⟩ = .error e := first_math s t e n hx h1 h2 h hs
theorem byte_at {s : ByteArray} {n : Nat} (h : n < s.size) : ∃ b : UInt8, s.data.toList[n]? = some b ∧ byteAt s n = b.toNat ∧ s.data.toList.take (n + 1) = s.data.toList.take n ++ [b] := by
  have hl : n < s.data.toList.length := by rw [Array.length_toList]; exact h
  refine ⟨s.data.toList[n], List.getElem?_eq_getElem hl, ?_, ?_⟩
  · rw [byte_get, List.getElem?_eq_getElem hl]
    rfl
  · rw [List.take_add_one, List.getElem?_eq_getElem hl]
    rfl
set_option maxRecDepth 100000 in
set_option maxHeartbeats 8000000 in
theorem LexFirst_calls (x y : Option Addr) (cap capt : Nat) (s t : ByteArray) (w : World) (hv : BytesR w (.slice x s.size cap) s) (hu : BytesR w (.slice y t.size capt) t) (hT : Tabs w) (hs : s.size ≤ 9223372036854775807) (ht : t.size ≤ 9223372036854775807) :
    Calls Tryd.prog 8 #[.slice x s.size cap, .slice y t.size capt] w fun e w' => e = .returned (.bool true) ∧ Below w.heap.size w w' := by
  obtain ⟨i0, hi, hz0, hz1, hz2⟩ := info_parts Tryd.infou8
  go_enter Tryd.func8, Tryd.ntmps8
  go_wp2_with fail
  refine (awake_calls w hT).mono ?_
  rintro e w0 ⟨rfl, hB0⟩
  have HL := hid_of (Lex_calls _ _ _ (hv.below hB0) (hT.below hB0) hs)
  go_wp2_with fail
  refine HL.out.mono ?_
  rintro e w1 ⟨hans, hB1⟩
  have hW1 : Below w.heap.size w w1 := below_step hB0 hB0.size hB1
  clear HL hB0 hB1
  cases hl : lexA s with
  | ok toks =>
    rw [hl] at hans
    obtain ⟨v', rfl, hown⟩ := hans
    simp only [fltC, noFlt, fltA]
    clear hown hl
    go_wp2_with fail
    go_ret
    exact ⟨rfl, hW1.alloc hW1.size _⟩
  | error f =>
    rw [hl] at hans
    have hans : e = .returned (.tuple #[.slice none 0 0, .agg (fltC f)]) := hans
    subst hans
    have hfl := lexA_line hl
    have HX := hid_of hl
    obtain ⟨fc, fl, fk⟩ := f
    simp only [] at hfl
    simp only [fltC, fltA]
    have hX := hW1.alloc hW1.size (.cells #[.int .i64 ((fc : Nat) : Int), .int .i64 ((fl : Nat) : Int), .int .i64 ((fk : Nat) : Int)] 29)
    by_cases hc : fc = 20
    · have t1 : (((fc : Nat) : Int) != 20) = false := by simp [hc]
      clear hc
      by_cases hs6 : s.size ≤ 60000
      · have t2 : ¬ (60000 : Int) < ((s.size : Nat) : Int) := by omega
        by_cases ht5 : t.size ≤ 5000
        · have t3 : ¬ (5000 : Int) < ((t.size : Nat) : Int) := by omega
          rcases id hv with ⟨x', cap', h, rfl⟩ | ⟨g, o, cap', h, hgl, h3⟩
          · exact absurd hl (fun h => lex_empty h)
          cases h
          have HV := hid_of h3
          have hmk := make_bytes (w1.alloc (.cells #[.int .i64 ((fc : Nat) : Int), .int .i64 ((fl : Nat) : Int), .int .i64 ((fk : Nat) : Int)] 29))
          have HA : Hid (BaAt (w1.alloc (.cells #[.int .i64 ((fc : Nat) : Int), .int .i64 ((fl : Nat) : Int), .int .i64 ((fk : Nat) : Int)] 29)) ((w1.alloc (.cells #[.int .i64 ((fc : Nat) : Int), .int .i64 ((fl : Nat) : Int), .int .i64 ((fk : Nat) : Int)] 29)).alloc (.cells #[] 5)) (.slice (some ⟨w1.heap.size + 1, 0, none⟩) 0 0) []) := by
            have := BaAt.start (w1.alloc (.cells #[.int .i64 ((fc : Nat) : Int), .int .i64 ((fl : Nat) : Int), .int .i64 ((fk : Nat) : Int)] 29))
            rw [World.size_alloc] at this
            exact this
          have hF0 : Blk (w1.alloc (.cells #[.int .i64 ((fc : Nat) : Int), .int .i64 ((fl : Nat) : Int), .int .i64 ((fk : Nat) : Int)] 29)) w1.heap.size 29 #[.int .i64 ((fc : Nat) : Int), .int .i64 ((fl : Nat) : Int), .int .i64 ((fk : Nat) : Int)] := Blk.new w1 _ _
          have HF0 := hid_of hF0
          clear hl h3 hv hF0
          go_wp2_with fail
          clear hmk
          go_loopw [7, 8, 9] (fun c ln i wr => ∃ n l : Nat, n ≤ s.size ∧ i = .int .i64 ((n : Nat) : Int) ∧ ln = .int .i64 ((l : Nat) : Int) ∧ Hid (l = lineAt s n) ∧ l ≤ fl ∧ l ≤ n + 1 ∧ BaAt (w1.alloc (.cells #[.int .i64 ((fc : Nat) : Int), .int .i64 ((fl : Nat) : Int), .int .i64 ((fk : Nat) : Int)] 29)) wr c (s.data.toList.take n)) (fun _ _ i _ => s.size - (intOf i).toNat)
          case atStart => exact ⟨0, 1, by omega, rfl, rfl, rfl, hfl, by omega, HA.out⟩
          case round =>
            clear HA
            obtain ⟨n, l, hn, rfl, rfl, HLn, hlf, hln, hA⟩ := hrel
            have hF := Blk.of_below HF0.out hA.below
            have d0 : wr.cell? ⟨w1.heap.size, 0, none⟩ = some (.int .i64 ((fc : Nat) : Int)) := hF.cell rfl
            have d1 : wr.cell? ⟨w1.heap.size, 1, none⟩ = some (.int .i64 ((fl : Nat) : Int)) := hF.cell rfl
            have hlen : (s.data.toList.take n).length = n := by
              rw [List.length_take, Array.length_toList]
              show min n s.size = n
              omega
            by_cases hlt : n < s.size
            · have k1 : ((n : Nat) : Int) < ((s.size : Nat) : Int) := by omega
              obtain ⟨b, hb1, hb2, hb3⟩ := byte_at hlt
              have hbl : n < s.data.toList.length := by rw [Array.length_toList]; exact hlt
              have HQ0 : w.cell? ⟨g, o + n, none⟩ = some (.int .u8 ((b.toNat : Nat) : Int)) := by
                have h4 := HV.out n hbl
                rw [(Option.some.inj ((List.getElem?_eq_getElem hbl).symm.trans hb1) : s.data.toList[n] = b)] at h4
                exact h4
              have hq : wr.cell? ⟨g, o + n, none⟩ = some (.int .u8 ((b.toNat : Nat) : Int)) := ((below_step hX hX.size hA.below).cell (p := ⟨g, o + n, none⟩) hgl).trans HQ0
              have HL1 : Hid (lineAt s (n + 1) = l + (if byteAt s n = 10 then 1 else 0)) := by rw [HLn.out]; rfl
              rw [hb2] at HL1
              have HQ : Hid (w.cell? ⟨g, o + n, none⟩ = some (.int .u8 ((b.toNat : Nat) : Int))) := HQ0
              have k0 : (0 : Int) ≤ ((n : Nat) : Int) := by omega
              by_cases hb10 : b.toNat = 10
              · have q1 : (((b.toNat : Nat) : Int) == 10) = true := by simp [hb10]
                have q2 : (((b.toNat : Nat) : Int) != 10) = false := by simp [hb10]
                rw [if_pos hb10] at HL1
                have HLX : Hid (l + 1 = lineAt s (n + 1)) := HL1.out.symm
                by_cases hll : l < fl
                · have q3 : ((l : Nat) : Int) < ((fl : Nat) : Int) := by omega
                  clear hb10 hb1 hb2
                  go_wp2_with (at_builtin; refine wpList_append_own_at _ rfl _ _ 32 rfl (w1.alloc (.cells #[.int .i64 ((fc : Nat) : Int), .int .i64 ((fl : Nat) : Int), .int .i64 ((fk : Nat) : Int)] 29)).heap.size 5 i0 (.int .u8 0) 1 1 Tryd.underlying32 hi hz0 hz1 hz2 rfl (by decide) _ (s.data.toList.take n).length (encB (s.data.toList.take n)) rfl (hA.own.alloc _) ⟨_, 0, none⟩ 1 1 [.int .u8 ((b.toNat : Nat) : Int)] rfl rfl (news_u8 wr b) (by simp [Value.oneCell']) (by unfold maxLen; omega) (by omega) (by have := hA.below.size; simp at this ⊢; omega) ?_; intro v' w5 hown' hgrow _ _; have hA5 := hA.more (x := b) hown' hgrow; have hq5 : w5.cell? ⟨g, o + n, none⟩ = some (.int .u8 ((b.toNat : Nat) : Int)) := ((below_step hX hX.size hA5.below).cell (p := ⟨g, o + n, none⟩) hgl).trans HQ.out; rw [← hb3] at hA5)
                  exact ⟨⟨n + 1, l + 1, by omega, by go_num, by go_num, HLX, by omega, by omega, hA5⟩, by simp [intOf]; omega⟩
                · have q3 : ¬ ((l : Nat) : Int) < ((fl : Nat) : Int) := by omega
                  have hlq : l = fl := by omega
                  have q4 : (((l : Nat) : Int) == ((fl : Nat) : Int)) = true := by simp [hlq]
                  have HEX : n < s.size → byteAt s n = 10 ∧ fl ≤ lineAt s n := fun _ => ⟨hb2.trans hb10, by rw [← HLn.out, hlq]; exact Nat.le_refl _⟩
                  clear hlq hb10 hb1 hb2
                  have HB10 := hid_of (first_math' s t ⟨fc, fl, fk⟩ n HX.out hs6 ht5 hn HEX)
                  clear HX
                  go_wp2_with (first | (at_builtin; refine wpList_append_own_at _ rfl _ _ 32 rfl (w1.alloc (.cells #[.int .i64 ((fc : Nat) : Int), .int .i64 ((fl : Nat) : Int), .int .i64 ((fk : Nat) : Int)] 29)).heap.size 5 i0 (.int .u8 0) 1 1 Tryd.underlying32 hi hz0 hz1 hz2 rfl (by decide) _ (s.data.toList.take n).length (encB (s.data.toList.take n)) rfl (hA.own.alloc _) ⟨_, 0, none⟩ 1 1 [.int .u8 (((10 : UInt8).toNat : Nat) : Int)] rfl rfl (news_u8 wr 10) (by simp [Value.oneCell']) (by unfold maxLen; omega) (by omega) (by have := hA.below.size; simp at this ⊢; omega) ?_; intro v' w5 hown' hgrow _ _; have hA5 := hA.more (x := 10) hown' hgrow) | (at_builtin; refine wpList_append_bytes rfl _ _ rfl _ (s.data.toList.take n ++ [10]) hA5 (by simp) rfl _ t rfl (hu.below (below_step hX hX.size hA5.below)) (by simp; omega) ?_; intro v6 w6 hA6))
                  obtain ⟨g6, cap6, rfl, hb6⟩ := hA6.bytes (by simp; omega)
                  have hX6 := below_step hX hX.size hA6.below
                  have HL6 := hid_of (Lex_calls _ _ _ hb6 (hT.below hX6) (by have := firstS_size s t n hn; change (⟨(s.data.toList.take n ++ [10] ++ t.data.toList).toArray⟩ : ByteArray).size = _ at this; omega))
                  rw [HB10.out] at HL6
                  refine HL6.out.mono ?_
                  rintro e w7 ⟨he, hB7⟩
                  have he : e = .returned (.tuple #[.slice none 0 0, .agg (fltC ⟨fc, fl, fk⟩)]) := he
                  subst he
                  simp only [fltC, fltA]
                  have hX7 := below_step hX6 hX6.size hB7
                  have hF7 := Blk.of_below (Blk.of_below HF0.out hA6.below) hB7
                  have z0 : w7.cell? ⟨w1.heap.size, 0, none⟩ = some (.int .i64 ((fc : Nat) : Int)) := hF7.cell rfl
                  have z1 : w7.cell? ⟨w1.heap.size, 1, none⟩ = some (.int .i64 ((fl : Nat) : Int)) := hF7.cell rfl
                  have z2 : w7.cell? ⟨w1.heap.size, 2, none⟩ = some (.int .i64 ((fk : Nat) : Int)) := hF7.cell rfl
                  have hz7 : w1.heap.size < w7.heap.size := Blk.lt hF7
                  clear HL6 HB10
                  go_wp2_with fail
                  go_ret
                  exact ⟨rfl, hX7.alloc hX7.size _⟩
              · have q1 : (((b.toNat : Nat) : Int) == 10) = false := by rw [beq_eq_false_iff_ne]; omega
                have q2 : (((b.toNat : Nat) : Int) != 10) = true := by simp only [bne_iff_ne, ne_eq]; omega
                rw [if_neg hb10] at HL1
                have HLX : Hid (l = lineAt s (n + 1)) := HL1.out.symm
                by_cases hll : l < fl
                · have q3 : ((l : Nat) : Int) < ((fl : Nat) : Int) := by omega
                  clear hb10 hb1 hb2
                  go_wp2_with (at_builtin; refine wpList_append_own_at _ rfl _ _ 32 rfl (w1.alloc (.cells #[.int .i64 ((fc : Nat) : Int), .int .i64 ((fl : Nat) : Int), .int .i64 ((fk : Nat) : Int)] 29)).heap.size 5 i0 (.int .u8 0) 1 1 Tryd.underlying32 hi hz0 hz1 hz2 rfl (by decide) _ (s.data.toList.take n).length (encB (s.data.toList.take n)) rfl (hA.own.alloc _) ⟨_, 0, none⟩ 1 1 [.int .u8 ((b.toNat : Nat) : Int)] rfl rfl (news_u8 wr b) (by simp [Value.oneCell']) (by unfold maxLen; omega) (by omega) (by have := hA.below.size; simp at this ⊢; omega) ?_; intro v' w5 hown' hgrow _ _; have hA5 := hA.more (x := b) hown' hgrow; have hq5 : w5.cell? ⟨g, o + n, none⟩ = some (.int .u8 ((b.toNat : Nat) : Int)) := ((below_step hX hX.size hA5.below).cell (p := ⟨g, o + n, none⟩) hgl).trans HQ.out; rw [← hb3] at hA5)
                  exact ⟨⟨n + 1, l, by omega, by go_num, rfl, HLX, by omega, by omega, hA5⟩, by simp [intOf]; omega⟩
                · have q3 : ¬ ((l : Nat) : Int) < ((fl : Nat) : Int) := by omega
                  have hlq : l = fl := by omega
                  have q4 : (((l : Nat) : Int) == ((fl : Nat) : Int)) = true := by simp [hlq]
                  clear hb10 hb1 hb2
                  go_wp2_with (at_builtin; refine wpList_append_own_at _ rfl _ _ 32 rfl (w1.alloc (.cells #[.int .i64 ((fc : Nat) : Int), .int .i64 ((fl : Nat) : Int), .int .i64 ((fk : Nat) : Int)] 29)).heap.size 5 i0 (.int .u8 0) 1 1 Tryd.underlying32 hi hz0 hz1 hz2 rfl (by decide) _ (s.data.toList.take n).length (encB (s.data.toList.take n)) rfl (hA.own.alloc _) ⟨_, 0, none⟩ 1 1 [.int .u8 ((b.toNat : Nat) : Int)] rfl rfl (news_u8 wr b) (by simp [Value.oneCell']) (by unfold maxLen; omega) (by omega) (by have := hA.below.size; simp at this ⊢; omega) ?_; intro v' w5 hown' hgrow _ _; have hA5 := hA.more (x := b) hown' hgrow; have hq5 : w5.cell? ⟨g, o + n, none⟩ = some (.int .u8 ((b.toNat : Nat) : Int)) := ((below_step hX hX.size hA5.below).cell (p := ⟨g, o + n, none⟩) hgl).trans HQ.out; rw [← hb3] at hA5)
                  exact ⟨⟨n + 1, l, by omega, by go_num, by rw [hlq], HLX, by omega, by omega, hA5⟩, by simp [intOf]; omega⟩
            · have hns : n = s.size := by omega
              have k1 : ¬ ((n : Nat) : Int) < ((s.size : Nat) : Int) := by omega
              have HEX : n < s.size → byteAt s n = 10 ∧ fl ≤ lineAt s n := fun h => absurd h hlt
              have HB10 := hid_of (first_math' s t ⟨fc, fl, fk⟩ n HX.out hs6 ht5 hn HEX)
              clear HX
              go_wp2_with (first | (at_builtin; refine wpList_append_own_at _ rfl _ _ 32 rfl (w1.alloc (.cells #[.int .i64 ((fc : Nat) : Int), .int .i64 ((fl : Nat) : Int), .int .i64 ((fk : Nat) : Int)] 29)).heap.size 5 i0 (.int .u8 0) 1 1 Tryd.underlying32 hi hz0 hz1 hz2 rfl (by decide) _ (s.data.toList.take n).length (encB (s.data.toList.take n)) rfl (hA.own.alloc _) ⟨_, 0, none⟩ 1 1 [.int .u8 (((10 : UInt8).toNat : Nat) : Int)] rfl rfl (news_u8 wr 10) (by simp [Value.oneCell']) (by unfold maxLen; omega) (by omega) (by have := hA.below.size; simp at this ⊢; omega) ?_; intro v' w5 hown' hgrow _ _; have hA5 := hA.more (x := 10) hown' hgrow) | (at_builtin; refine wpList_append_bytes rfl _ _ rfl _ (s.data.toList.take n ++ [10]) hA5 (by simp) rfl _ t rfl (hu.below (below_step hX hX.size hA5.below)) (by simp; omega) ?_; intro v6 w6 hA6))
              obtain ⟨g6, cap6, rfl, hb6⟩ := hA6.bytes (by simp; omega)
              have hX6 := below_step hX hX.size hA6.below
              have HL6 := hid_of (Lex_calls _ _ _ hb6 (hT.below hX6) (by have := firstS_size s t n hn; change (⟨(s.data.toList.take n ++ [10] ++ t.data.toList).toArray⟩ : ByteArray).size = _ at this; omega))
              rw [HB10.out] at HL6
              refine HL6.out.mono ?_
              rintro e w7 ⟨he, hB7⟩
              have he : e = .returned (.tuple #[.slice none 0 0, .agg (fltC ⟨fc, fl, fk⟩)]) := he
              subst he
              simp only [fltC, fltA]
              have hX7 := below_step hX6 hX6.size hB7
              have hF7 := Blk.of_below (Blk.of_below HF0.out hA6.below) hB7
              have z0 : w7.cell? ⟨w1.heap.size, 0, none⟩ = some (.int .i64 ((fc : Nat) : Int)) := hF7.cell rfl
              have z1 : w7.cell? ⟨w1.heap.size, 1, none⟩ = some (.int .i64 ((fl : Nat) : Int)) := hF7.cell rfl
              have z2 : w7.cell? ⟨w1.heap.size, 2, none⟩ = some (.int .i64 ((fk : Nat) : Int)) := hF7.cell rfl
              have hz7 : w1.heap.size < w7.heap.size := Blk.lt hF7
              clear HL6 HB10
              go_wp2_with fail
              go_ret
              exact ⟨rfl, hX7.alloc hX7.size _⟩
        · have t3 : (5000 : Int) < ((t.size : Nat) : Int) := by omega
          go_wp2_with fail
          go_ret
          exact ⟨rfl, hX⟩
      · have t2 : (60000 : Int) < ((s.size : Nat) : Int) := by omega
        go_wp2_with fail
        go_ret
        exact ⟨rfl, hX⟩
    · have t1 : (((fc : Nat) : Int) != 20) = true := by
        simp only [bne_iff_ne, ne_eq]
        omega
      go_wp2_with fail
      go_ret
      exact ⟨rfl, hX⟩
end Go.Proofs.YtmkphocniimhjaaDoor
