/- The statement LexPlaces, walked. -/
import Derived.Test.YtmkphocniimhjaaDoorLxPlaces
namespace Go.Proofs.YtmkphocniimhjaaDoor
open Go.RowKit Go.Shelf

set_option maxRecDepth 100000 in
set_option maxHeartbeats 8000000 in
theorem LexPlaces_calls (x : Option Addr) (cap : Nat) (s : ByteArray) (w : World) (hv : BytesR w (.slice x s.size cap) s) (hcap : s.size ≤ cap) (hT : Tabs w) (hs : s.size ≤ 9223372036854775807) :
    Calls Tryd.prog 7 #[.slice x s.size cap] w fun e w' => e = .returned (.bool true) ∧ Below w.heap.size w w' := by
  go_enter Tryd.func7, Tryd.ntmps7
  go_wp2_with fail
  refine (awake_calls w hT).mono ?_
  rintro e w0 ⟨rfl, hB0⟩
  have HL := hid_of (Lex_calls _ _ _ (hv.below hB0) (hT.below hB0) hs)
  go_wp2_with fail
  refine HL.out.mono ?_
  rintro e w1 ⟨hans, hB1⟩
  have hW1 : Below w.heap.size w w1 := below_step hB0 hB0.size hB1
  clear HL
  cases hl : lexA s with
  | error f =>
    rw [hl] at hans
    have hans : e = .returned (.tuple #[.slice none 0 0, .agg (fltC f)]) := hans
    subst hans
    have hc := lexA_err hl
    obtain ⟨fc, fl, fk⟩ := f
    have t1 : (((fc : Nat) : Int) != 0) = true := by
      simp only [bne_iff_ne, ne_eq]
      intro e
      exact hc (by simp only []; omega)
    clear hc hl
    simp only [fltC, fltA]
    go_wp2_with fail
    go_ret
    exact ⟨rfl, hW1.alloc hW1.size _⟩
  | ok toks =>
    rw [hl] at hans
    obtain ⟨v', rfl, hown⟩ := hans
    obtain ⟨hsz, hpl⟩ := lexA_places s toks hl
    have HS := hid_of (Stand.start hpl)
    have hn : 0 < toks.length := by
      cases toks with
      | nil => exact absurd hpl (fun h => h)
      | cons t ts => simp
    obtain ⟨gt, capt, rfl⟩ := tok_form hown hn
    simp only [fltC, noFlt, fltA]
    have hBA := (Below.refl w1.heap.size w1).alloc (Nat.le_refl _) (.cells #[.int .i64 0, .int .i64 0, .int .i64 0] 29)
    have hX := below_step hW1 hW1.size hBA
    have hv2 := hv.below hX
    have hown2 := ownsT_below hown hBA
    have HL2 := hid_of (Runes_calls _ _ (w1.alloc (.cells #[.int .i64 0, .int .i64 0, .int .i64 0] 29)) hv2 (by omega))
    have h0 := runesK_pos s s.size 0 1 1
    change 0 < (runesA s).length at h0
    have hRl : (runesA s).length ≤ 65537 := by
      have := runesK_le s s.size 0 1 1 (by omega) (by omega)
      unfold runesA
      omega
    clear hl hpl hBA hown
    go_wp2_with fail
    refine HL2.out.mono ?_
    rintro e w2 ⟨vr, rfl, hownr, hB2⟩
    obtain ⟨gr, capr, rfl⟩ := rn_form hownr h0
    have hown3 := ownsT_below hown2 hB2
    have hW2 := below_step hX hX.size hB2
    have hv3 := hv2.below hB2
    have htl : toks.length ≤ 9223372036854775807 := tok_few hown3
    clear HL2 hown2 hv2 hB2 hX hW1 hB0 hB1
    go_wp2_with fail
    go_loopw [6, 7, 8] (fun k e i wr => ∃ (kn en inn m : Nat), k = .int .i64 ((kn : Nat) : Int) ∧ e = .int .i64 ((en : Nat) : Int) ∧ i = .int .i64 ((inn : Nat) : Int) ∧ inn ≤ toks.length ∧ Hid (Stand s toks inn kn en) ∧ wr = w2.drewN m) (fun _ _ i _ => toks.length - (intOf i).toNat)
    case atStart => exact ⟨0, 0, 0, 0, rfl, rfl, rfl, by omega, HS.out, rfl⟩
    case round =>
      clear HS
      obtain ⟨kn, en, i, m, rfl, rfl, rfl, hi, HS, rfl⟩ := hrel
      by_cases hlt : i < toks.length
      · obtain ⟨t, X, j, e1, e2, e3, e4, e5, e6, e7, e8, e9, e10, e11, HN⟩ := HS.out.step hlt
        have r0 := tkn_at hown3 e1 0 (by omega)
        have r1 := tkn_at hown3 e1 1 (by omega)
        have r3 := tkn_at hown3 e1 3 (by omega)
        have r4 := tkn_at hown3 e1 4 (by omega)
        have q1 := rn_at hownr e2 1 (by omega)
        have q3 := rn_at hownr e2 3 (by omega)
        have q4 := rn_at hownr e2 4 (by omega)
        have HN := hid_of HN
        have HY := hid_of e11
        obtain ⟨tk, tt, tv, tl, tc⟩ := t
        obtain ⟨xr, xa, xn, xl, xc⟩ := X
        simp only [] at e5 e6 e7 e8 e9 e10 HY HN
        subst e5 e6
        simp only [rnC, tokC, tokA, List.getElem?_toArray, List.getElem?_cons_zero, List.getElem?_cons_succ, Nat.add_zero] at q1 q3 q4 r0 r1 r3 r4
        have i0 : (0 : Int) ≤ ((i : Nat) : Int) := by omega
        have i1 : ((i : Nat) : Int) < ((toks.length : Nat) : Int) := by omega
        have HB := hid_of (And.intro hv3 hownr)
        clear e1 e2 e11 HS hv3
        go_wp2_with fail
        go_loopw [6] (fun k wr => ∃ (kn m : Nat), kn ≤ j ∧ k = .int .i64 ((kn : Nat) : Int) ∧ wr = w2.drewN m) (fun k _ => j - (intOf k).toNat)
        case atStart => exact ⟨kn, m, e3, rfl, rfl⟩
        case round =>
          obtain ⟨k, m, hk, rfl, rfl⟩ := hrel
          have k0 : (0 : Int) ≤ ((k : Nat) : Int) := by omega
          have k1 : ((k : Nat) : Int) < (((runesA s).length : Nat) : Int) := by omega
          by_cases hkj : k < j
          · obtain ⟨Y, hY⟩ : ∃ Y, (runesA s)[k]? = some Y := ⟨_, List.getElem?_eq_getElem (by omega)⟩
            have hne := HY.out k Y hkj hY
            have y3 := rn_at HB.out.2 hY 3 (by omega)
            have y4 := rn_at HB.out.2 hY 4 (by omega)
            obtain ⟨yr, ya, yn, yl, yc⟩ := Y
            simp only [rnC, List.getElem?_toArray, List.getElem?_cons_zero, List.getElem?_cons_succ] at y3 y4 hne
            clear hY q1 q3 q4 hownr hown3
            by_cases hyl : yl = xl
            · have g1 : (((yl : Nat) : Int) != ((xl : Nat) : Int)) = false := by simp [hyl]
              have g2 : (((yc : Nat) : Int) != ((xc : Nat) : Int)) = true := by
                simp only [bne_iff_ne, ne_eq]
                intro e
                exact hne ⟨hyl, by omega⟩
              clear hne hyl
              go_wp2_with fail
              go_quiet (fail)
              go_wp2_with fail
              exact ⟨⟨k + 1, m + nq, by omega, by go_num, rfl⟩, by simp [intOf]; omega⟩
            · have g1 : (((yl : Nat) : Int) != ((xl : Nat) : Int)) = true := by
                simp only [bne_iff_ne, ne_eq]
                omega
              clear hne hyl
              go_wp2_with fail
              go_quiet (fail)
              go_wp2_with fail
              exact ⟨⟨k + 1, m + nq, by omega, by go_num, rfl⟩, by simp [intOf]; omega⟩
          · obtain rfl : k = j := by omega
            have g1 : (((xl : Nat) : Int) != ((xl : Nat) : Int)) = false := by simp
            have g2 : (((xc : Nat) : Int) != ((xc : Nat) : Int)) = false := by simp
            clear hownr hown3
            go_wp2_with fail
            go_quiet (fail)
            have B3 : xa ≤ s.size := by omega
            have B4 : s.size ≤ 281474976710656 := by omega
            have B5 : xa + tt.size ≤ 281474976710656 := by omega
            have c1 : (((k : Nat) : Int) == (((runesA s).length : Nat) : Int)) = false := by rw [beq_eq_false_iff_ne]; omega
            have c2 : decide (((s.size : Nat) : Int) - ((xa : Nat) : Int) < ((tt.size : Nat) : Int)) = false := decide_eq_false (by omega)
            have c5 : ¬ ((xa : Nat) : Int) < ((en : Nat) : Int) := by omega
            have B6 : xa + tt.size ≤ cap := by omega
            have hsl := fun W => slice_bytes W x s.size cap xa tt.size B6
            have hcv0 := fun n => conv_bytes (sub_bytes (HB.out.1.below (below_drewN (Below.refl _ w2) n)) hcap e8)
            rw [← e9] at hcv0
            generalize sliced x xa (xa + tt.size) cap 1 = vs at hsl hcv0
            have hcv1 : ∀ n n', (convert 32 9 vs).run Tryd.prog ((w2.drewN n).drewN n') = .ok (.string tt) ((w2.drewN n).drewN n') := by
              intro n n'
              rw [World.drewN_drewN]
              exact hcv0 _
            clear e9
            obtain ⟨bq, d1, d2⟩ : ∃ bq, (((tk : Nat) : Int) == 5) = bq ∧ (((tt.size : Nat) : Int) == 0) = bq := by
              by_cases hk5 : tk = 5
              · exact ⟨true, by simp [hk5], by simp [e10.2 hk5]⟩
              · refine ⟨false, by rw [beq_eq_false_iff_ne]; omega, ?_⟩
                rw [beq_eq_false_iff_ne]
                intro e
                exact hk5 (e10.1 (by omega))
            have b1 := wrapI_sub s.size xa B3 B4
            have b2 := wrapI_add xa tt.size B5
            have HB := hid_of (And.intro HN htl)
            clear e10 HN
            go_wp2_with fail
            go_quiet (fail)
            go_wp2_with fail
            go_quiet (fail)
            go_wp2_with fail
            clear b1 b2
            exact ⟨⟨k, xa + tt.size, i + 1, _, rfl, by go_num, by go_num, by omega, HB.out.1, rfl⟩, by simp [intOf]; omega⟩
      · obtain rfl : i = toks.length := by omega
        obtain ⟨⟨X, e1, e2⟩, t, e3, e4⟩ := HS.out.last
        have q2 := rn_at hownr e1 2 (by omega)
        have r0 := tkn_at hown3 e3 0 (by omega)
        obtain ⟨xr, xa, xn, xl, xc⟩ := X
        obtain ⟨tk, tt, tv, tl, tc⟩ := t
        simp only [] at e2 e4
        subst e2 e4
        simp only [rnC, tokC, tokA, List.getElem?_toArray, List.getElem?_cons_zero, List.getElem?_cons_succ, Nat.add_zero] at q2 r0
        have hkl := HS.out.1
        have k0 : (0 : Int) ≤ ((kn : Nat) : Int) := by omega
        have k1 : ((kn : Nat) : Int) < (((runesA s).length : Nat) : Int) := by omega
        have z1 : (0 : Int) < ((toks.length : Nat) : Int) := by omega
        have z2 : (0 : Int) ≤ ((toks.length : Nat) : Int) - 1 := by omega
        have z3 : ((toks.length : Nat) : Int) - 1 < ((toks.length : Nat) : Int) := by omega
        have z4 : (((toks.length : Nat) : Int) - 1).toNat = toks.length - 1 := by omega
        have z5 : wrap64 (((toks.length : Nat) : Int) - 1) = ((toks.length : Nat) : Int) - 1 := wrap_one _ (by omega) htl
        have z6 : (((toks.length : Nat) : Int) - 1).toNat * 5 = (toks.length - 1) * 5 := by omega
        go_wp2_with fail
        go_wp2_with fail
        go_ret
        exact ⟨rfl, below_drewN hW2 _⟩
end Go.Proofs.YtmkphocniimhjaaDoor
