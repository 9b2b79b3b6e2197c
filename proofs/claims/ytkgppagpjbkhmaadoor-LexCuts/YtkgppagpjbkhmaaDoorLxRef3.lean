/- The contract of the reference's skipped. -/
import Derived.Test.YtkgppagpjbkhmaaDoorLxRef2
namespace Go.Proofs.YtkgppagpjbkhmaaDoor
open Go.RowKit Go.Shelf

/-- The table of runes, as it lies in memory. -/
def RTab (w : World) (base gr capr : Nat) (s : ByteArray) : Prop := w.ownsRow base 52 5 (.slice (some ⟨gr, 0, none⟩) (runesA s).length capr) (runesA s).length (encR (runesA s))
theorem RTab.below {w w' : World} {base gr capr : Nat} {s : ByteArray} (h : RTab w base gr capr s) (hb : Below w.heap.size w w') : RTab w' base gr capr s := ownsR_below h hb
theorem RTab.at {w : World} {base gr capr : Nat} {s : ByteArray} (h : RTab w base gr capr s) {j : Nat} {x : Rn} (hx : (runesA s)[j]? = some x) :
    w.cell? ⟨gr, j * 5 + 0, none⟩ = some (.int .i64 x.r) ∧ w.cell? ⟨gr, j * 5 + 1, none⟩ = some (.int .i64 ((x.at_ : Nat) : Int)) ∧ w.cell? ⟨gr, j * 5 + 2, none⟩ = some (.int .i64 ((x.n : Nat) : Int)) ∧ w.cell? ⟨gr, j * 5 + 3, none⟩ = some (.int .i64 ((x.line : Nat) : Int)) ∧ w.cell? ⟨gr, j * 5 + 4, none⟩ = some (.int .i64 ((x.col : Nat) : Int)) :=
  ⟨rn_at h hx 0 (by omega), rn_at h hx 1 (by omega), rn_at h hx 2 (by omega), rn_at h hx 3 (by omega), rn_at h hx 4 (by omega)⟩
theorem runes_few (s : ByteArray) (hs : s.size ≤ 65536) : (runesA s).length ≤ 65537 := by
  have := runesK_le s s.size 0 1 1 (by omega) (by omega)
  unfold runesA
  omega
theorem rune_x {s : ByteArray} {j p l k : Nat} (h : Bnd s j p l k) (hp : p < s.size) : (runesA s)[j]? = some ⟨runeI s p, p, (Utf8.decode s p).2, l, k⟩ := by rw [h.rune, if_pos hp]
theorem rune_end {s : ByteArray} {j p l k : Nat} (h : Bnd s j p l k) (hp : ¬ p < s.size) : (runesA s)[j]? = some ⟨0, p, 0, l, k⟩ := by rw [h.rune, if_neg hp]
/-- The remark's walk: at rune n of it, at byte q. -/
def RemW (s : ByteArray) (j p l k n q : Nat) : Prop := Bnd s (j + n) q l (k + n) ∧ p ≤ q ∧ (n = 0 → q = p) ∧ ∃ g, s.size - q ≤ g ∧ remA (dropB s p) = remK (dropB s p) g (q - p) n
theorem RemW.start {s : ByteArray} {j p l k : Nat} (h : Bnd s j p l k) : RemW s j p l k 0 p := ⟨h, Nat.le_refl _, fun _ => rfl, (dropB s p).size, by rw [dropB_size]; omega, by rw [Nat.sub_self]; rfl⟩
theorem RemW.more {s : ByteArray} {j p l k n q : Nat} (h : RemW s j p l k n q) (hq : q < s.size) (hr : ¬ (runeI s q = 10 ∨ runeI s q < 0)) : RemW s j p l k (n + 1) (q + (Utf8.decode s q).2) := by
  obtain ⟨h1, h2, h3, g, h4, h5⟩ := h
  obtain ⟨g2, h6, h7⟩ := rem_step (n := n) h2 hq h4 hr
  have hs := h1.step hq
  rw [if_neg (fun e => hr (Or.inl e)), if_neg (fun e => hr (Or.inl e))] at hs
  have hw := dec_pos s q
  exact ⟨hs, by omega, fun e => by omega, g2, h6, h5.trans h7⟩
theorem RemW.stop {s : ByteArray} {j p l k n q : Nat} (h : RemW s j p l k n q) (hr : q < s.size → (runeI s q = 10 ∨ runeI s q < 0)) : remA (dropB s p) = (q - p, n) ∧ Bnd s (j + n) q l (k + n) ∧ p ≤ q ∧ (n = 0 → q = p) := by
  obtain ⟨h1, h2, h3, g, h4, h5⟩ := h
  exact ⟨h5.trans (rem_stop h2 h1.1 h4 hr), h1, h2, h3⟩
/-- Where skipped stands. -/
def SkW (s : ByteArray) (p0 l0 k0 j p l k : Nat) : Prop := Bnd s j p l k ∧ ∃ f, s.size - p ≤ f ∧ betA (dropB s p0) l0 k0 = betK f (dropB s p) l k
theorem SkW.start {s : ByteArray} {j p l k : Nat} (h : Bnd s j p l k) : SkW s p l k j p l k := ⟨h, (dropB s p).size, by rw [dropB_size]; omega, rfl⟩
theorem SkW.blank {s : ByteArray} {p0 l0 k0 j p l k : Nat} (h : SkW s p0 l0 k0 j p l k) (hp : p < s.size) (hb : byteAt s p = 10 ∨ byteAt s p = 32 ∨ byteAt s p = 9 ∨ byteAt s p = 13) : ∃ p2 l2 k2, SkW s p0 l0 k0 (j + 1) p2 l2 k2 := by
  obtain ⟨h1, f, h2, h3⟩ := h
  obtain ⟨p2, l2, k2, f2, a, b, c⟩ := bet_step_blank h1 hp hb h2
  exact ⟨p2, l2, k2, a, f2, b, h3.trans c⟩
theorem SkW.none {s : ByteArray} {p0 l0 k0 j p l k : Nat} (h : SkW s p0 l0 k0 j p l k) (hb : p < s.size → ¬ (byteAt s p = 10 ∨ byteAt s p = 32 ∨ byteAt s p = 9 ∨ byteAt s p = 13) ∧ ([47, 47] : List UInt8).isPrefixOf (s.data.toList.drop p) = false) : betA (dropB s p0) l0 k0 = (dropB s p, l, k) ∧ Bnd s j p l k := by
  obtain ⟨h1, f, h2, h3⟩ := h
  exact ⟨h3.trans (bet_step_none hb), h1⟩
theorem SkW.rem {s : ByteArray} {p0 l0 k0 j p l k : Nat} (h : SkW s p0 l0 k0 j p l k) (hb : ¬ (byteAt s p = 10 ∨ byteAt s p = 32 ∨ byteAt s p = 9 ∨ byteAt s p = 13)) (hx : ([47, 47] : List UInt8).isPrefixOf (s.data.toList.drop p) = true) {n q : Nat} (hr : RemW s j p l k n q) (hst : q < s.size → (runeI s q = 10 ∨ runeI s q < 0)) : 1 ≤ n ∧ SkW s p0 l0 k0 (j + n) q l (k + n) := by
  obtain ⟨h1, f, h2, h3⟩ := h
  obtain ⟨f2, rfl, hp, r1, r2⟩ := bet_step_rem (l := l) (k := k) hb hx h2
  obtain ⟨e1, e2, e3, e4⟩ := hr.stop hst
  rw [e1] at r1 r2
  simp only [] at r1 r2
  rw [show p + (q - p) = q by omega] at r2
  refine ⟨?_, e2, f2, by omega, h3.trans r2⟩
  by_cases hn : n = 0
  · have := e4 hn
    omega
  · omega
theorem bad_byte {s : ByteArray} {q : Nat} (h : runeI s q < 0) : ¬ (byteAt s q = 10 ∨ byteAt s q = 32 ∨ byteAt s q = 9 ∨ byteAt s q = 13) ∧ ([47, 47] : List UInt8).isPrefixOf (s.data.toList.drop q) = false := by
  have hb : ¬ byteAt s q < 128 := by
    intro e
    have := (runeI_low s q (byteAt s q) e).2 rfl
    omega
  refine ⟨by omega, ?_⟩
  rw [pre_head, Bool.and_eq_false_iff, Bool.and_eq_false_iff]
  refine Or.inl (Or.inr (decide_eq_false ?_))
  show ¬ 47 = byteAt s q
  omega
theorem rune_blank {s : ByteArray} {j p l k : Nat} (h : Bnd s j p l k) : ∃ r n, (runesA s)[j]? = some ⟨r, p, n, l, k⟩ ∧ (blankRB ⟨r, p, n, l, k⟩ = true → p < s.size ∧ (byteAt s p = 10 ∨ byteAt s p = 32 ∨ byteAt s p = 9 ∨ byteAt s p = 13)) ∧ (blankRB ⟨r, p, n, l, k⟩ = false → p < s.size → ¬ (byteAt s p = 10 ∨ byteAt s p = 32 ∨ byteAt s p = 9 ∨ byteAt s p = 13)) := by
  by_cases hp : p < s.size
  · have hb := blank_same s p l k
    refine ⟨_, _, rune_x h hp, fun e => ⟨hp, hb.1 e⟩, fun e _ e2 => ?_⟩
    rw [hb.2 e2] at e
    exact absurd e (by decide)
  · refine ⟨_, _, rune_end h hp, fun e => absurd e (by simp [blankRB]), fun _ e => absurd e hp⟩
theorem rune_rem {s : ByteArray} {j p l k : Nat} (h : Bnd s j p l k) : ∃ r n, (runesA s)[j]? = some ⟨r, p, n, l, k⟩ ∧ ((0 < n ∧ r ≠ 10 ∧ 0 ≤ r ∧ p < s.size ∧ ¬ (runeI s p = 10 ∨ runeI s p < 0)) ∨ ((p < s.size → (runeI s p = 10 ∨ runeI s p < 0)) ∧ ((n = 0 ∧ r = 0) ∨ (0 < n ∧ r = 10) ∨ (0 < n ∧ r < 0 ∧ runeI s p < 0)))) := by
  by_cases hp : p < s.size
  · have hw := dec_pos s p
    refine ⟨_, _, rune_x h hp, ?_⟩
    by_cases h1 : runeI s p = 10
    · exact Or.inr ⟨fun _ => Or.inl h1, Or.inr (Or.inl ⟨by omega, h1⟩)⟩
    · by_cases h2 : runeI s p < 0
      · exact Or.inr ⟨fun _ => Or.inr h2, Or.inr (Or.inr ⟨by omega, h2, h2⟩)⟩
      · exact Or.inl ⟨by omega, h1, by omega, hp, by omega⟩
  · exact ⟨_, _, rune_end h hp, Or.inr ⟨fun e => absurd e hp, Or.inl ⟨rfl, rfl⟩⟩⟩
set_option maxRecDepth 100000 in
set_option maxHeartbeats 8000000 in
theorem rSkipped_calls (v : Value) (base gr capr : Nat) (s : ByteArray) (w : World) (hv : BytesR w v s) (hR : RTab w base gr capr s) (hs : s.size ≤ 65536) (j0 p0 l0 k0 : Nat) (hB0 : Bnd s j0 p0 l0 k0) :
    Calls Tryd.prog 24 #[v, .slice (some ⟨gr, 0, none⟩) (runesA s).length capr, .int .i64 ((j0 : Nat) : Int)] w fun e w' => (∃ j p l k, e = .returned (.int .i64 ((j : Nat) : Int)) ∧ betA (dropB s p0) l0 k0 = (dropB s p, l, k) ∧ Bnd s j p l k) ∧ Below w.heap.size w w' := by
  have HS := hid_of (SkW.start hB0)
  have hfew := runes_few s hs
  go_enter Tryd.func24, Tryd.ntmps24
  go_wp2_with fail
  go_loopw [2] (fun i wr => ∃ (j p l k : Nat), i = .int .i64 ((j : Nat) : Int) ∧ Hid (SkW s p0 l0 k0 j p l k) ∧ Hid (Below w.heap.size w wr)) (fun i _ => (runesA s).length - (intOf i).toNat)
  case atStart => exact ⟨j0, p0, l0, k0, rfl, HS.out, Below.refl _ _⟩
  case round =>
    clear HS
    obtain ⟨j, p, l, k, rfl, HS, HW⟩ := hrel
    have hB := HS.out.1
    have hjl := hB.lt
    have j0' : (0 : Int) ≤ ((j : Nat) : Int) := by omega
    have j1 : ((j : Nat) : Int) < (((runesA s).length : Nat) : Int) := by omega
    obtain ⟨r, n, hx, hbl, hnb⟩ := rune_blank hB
    have hc := fun W => rBlank_calls ⟨r, p, n, l, k⟩ W
    obtain ⟨q0, q1, q2, q3, q4⟩ := (hR.below HW.out).at hx
    simp only [Nat.add_zero] at q0 q1 q2 q3 q4
    have HX := hid_of hx
    cases hb : blankRB ⟨r, p, n, l, k⟩
    · have hnb := hnb hb
      rw [hb] at hc
      unfold rnC at hc
      simp only [] at hc
      have HNB := hid_of hnb
      clear hbl hnb hb hx
      cases hP : ([47, 47] : List UInt8).isPrefixOf (s.data.toList.drop p)
      · have HE := hid_of (HS.out.none (fun h => ⟨HNB.out h, hP⟩))
        go_wp2_with fail
        refine (hc _).mono ?_
        rintro e w2 ⟨rfl, hb2⟩
        have hW2 := below_step HW.out HW.out.size hb2
        have HBg := rBegins_calls v s ⟨#[47, 47]⟩ p w2 (hv.below hW2) hB.1 hs (by decide)
        have e47 : (⟨#[47, 47]⟩ : ByteArray).data.toList = [47, 47] := rfl
        rw [e47, hP] at HBg
        have HBg := hid_of HBg
        obtain ⟨z0, z1, z2, z3, z4⟩ := (hR.below hW2).at HX.out
        simp only [Nat.add_zero] at z0 z1 z2 z3 z4
        clear q0 q1 q2 q3 q4 hc e47 hP
        go_wp2_with fail
        refine HBg.out.mono ?_
        rintro e w3 ⟨rfl, m, hw3⟩
        have hW3 : Below w.heap.size w w3 := by rw [hw3]; exact below_drewN hW2 m
        clear HBg hw3 z0 z1 z2 z3 z4
        go_wp2_with fail
        go_ret
        exact ⟨⟨j, p, l, k, rfl, HE.out.1, HE.out.2⟩, hW3⟩
      · have HP := hid_of hP
        go_wp2_with fail
        refine (hc _).mono ?_
        rintro e w2 ⟨rfl, hb2⟩
        have hW2 := below_step HW.out HW.out.size hb2
        have HBg := rBegins_calls v s ⟨#[47, 47]⟩ p w2 (hv.below hW2) hB.1 hs (by decide)
        have e47 : (⟨#[47, 47]⟩ : ByteArray).data.toList = [47, 47] := rfl
        rw [e47, hP] at HBg
        have HBg := hid_of HBg
        obtain ⟨z0, z1, z2, z3, z4⟩ := (hR.below hW2).at HX.out
        simp only [Nat.add_zero] at z0 z1 z2 z3 z4
        clear q0 q1 q2 q3 q4 hc e47 hP
        go_wp2_with fail
        refine HBg.out.mono ?_
        rintro e w3 ⟨rfl, m, hw3⟩
        have hW3 : Below w.heap.size w w3 := by rw [hw3]; exact below_drewN hW2 m
        clear HBg hw3 z0 z1 z2 z3 z4
        have hR3 := hR.below hW3
        go_wp2_with fail
        have hp47 : p < s.size := by
          have := HP.out
          rw [pre_head, Bool.and_eq_true, Bool.and_eq_true, decide_eq_true_eq] at this
          exact this.1.1
        go_loopw [2] (fun i wr => ∃ (n q jn : Nat), i = .int .i64 ((jn : Nat) : Int) ∧ Hid (jn = j + n) ∧ Hid (RemW s j p l k n q) ∧ wr = w3) (fun i _ => (runesA s).length - (intOf i).toNat)
        case atStart => exact ⟨0, p, j, rfl, rfl, RemW.start hB, rfl⟩
        case round =>
          obtain ⟨n, q, jn, rfl, HJ, HRm, rfl⟩ := hrel
          have hBq : Bnd s jn q l (k + n) := by rw [HJ.out]; exact HRm.out.1
          have hjq := hBq.lt
          have a0 : (0 : Int) ≤ ((jn : Nat) : Int) := by omega
          have a1 : ((jn : Nat) : Int) < (((runesA s).length : Nat) : Int) := by omega
          obtain ⟨r', n', hx', hcase⟩ := rune_rem hBq
          obtain ⟨z0, z1, z2, z3, z4⟩ := hR3.at hx'
          simp only [Nat.add_zero] at z0 z1 z2 z3 z4
          rcases hcase with ⟨c1, c2, c3, c4, c5⟩ | ⟨hst, hcase⟩
          · have HM := hid_of (HRm.out.more c4 c5)
            have HJ2 : Hid (jn + 1 = j + (n + 1)) := by rw [HJ.out]; rfl
            have t1 : (0 : Int) < ((n' : Nat) : Int) := by omega
            have t2 : (r' != (10 : Int)) = true := by simp only [bne_iff_ne, ne_eq]; exact c2
            clear hx' c5 c2
            go_wp2_with fail
            exact ⟨⟨n + 1, _, jn + 1, by go_num, HJ2, HM.out, by trivial⟩, by simp [intOf]; omega⟩
          · have hSk := HS.out.rem (HNB.out hp47) HP.out HRm.out hst
            rw [← HJ.out] at hSk
            have HSk := hid_of hSk
            clear hSk hst hx'
            rcases hcase with ⟨rfl, rfl⟩ | ⟨c1, rfl⟩ | ⟨c1, c2, c3⟩
            · have t1 : ¬ (0 : Int) < ((0 : Nat) : Int) := by omega
              go_wp2_with fail
              exact ⟨⟨jn, q, l, k + n, rfl, HSk.out.2, hW3⟩, by have := HSk.out.1; have := HJ.out; simp [intOf]; omega⟩
            · have t1 : (0 : Int) < ((n' : Nat) : Int) := by omega
              go_wp2_with fail
              exact ⟨⟨jn, q, l, k + n, rfl, HSk.out.2, hW3⟩, by have := HSk.out.1; have := HJ.out; simp [intOf]; omega⟩
            · have t1 : (0 : Int) < ((n' : Nat) : Int) := by omega
              have t2 : (r' != (10 : Int)) = true := by simp only [bne_iff_ne, ne_eq]; omega
              have t3 : ¬ (0 : Int) ≤ r' := by omega
              have HE := hid_of (HSk.out.2.none (fun _ => bad_byte c3))
              clear c3
              go_wp2_with fail
              go_ret
              exact ⟨⟨jn, rfl, q, l, k + n, HE.out.1, HE.out.2⟩, hW3⟩
    · obtain ⟨hp, hb2⟩ := hbl hb
      obtain ⟨p2, l2, k2, h2⟩ := HS.out.blank hp hb2
      have HS2 := hid_of h2
      rw [hb] at hc
      unfold rnC at hc
      simp only [] at hc
      clear hbl hb hb2 hx h2 hnb
      go_wp2_with (go_at_call 43; refine (hc _).mono ?_; rintro e w2 ⟨rfl, hb2⟩)
      exact ⟨⟨j + 1, p2, l2, k2, by go_num, HS2.out, below_step HW.out HW.out.size hb2⟩, by simp [intOf]; omega⟩
end Go.Proofs.YtkgppagpjbkhmaaDoor
