/- The statement LexCuts, walked. -/
import Derived.Test.YtkgppagpjbkhmaaDoorLxCuts
namespace Go.Proofs.YtkgppagpjbkhmaaDoor
open Go.RowKit Go.Shelf

theorem Lft.set {w wr : World} {gt : Nat} {toks : List Tok} {i : Nat} (h : Lft w wr gt toks i) (q : Nat) (hq : q < 5) (v : Value) : Lft w (wr.setCell ⟨gt, i * 5 + q, none⟩ v) gt toks (i + 1) := by
  refine ⟨h.but.set _ _, by simpa using h.lt, ?_, fun o => by rw [World.frozen?_setCell]; exact h.froz o⟩
  intro j t hj ht q' hq'
  rw [World.cell?_setCell_other]
  · exact h.cells j t (by omega) ht q' hq'
  · intro e
    injection e with _ e _
    omega
theorem Lft.set' {w wr : World} {gt : Nat} {toks : List Tok} {i : Nat} (h : Lft w wr gt toks (i + 1)) (q : Nat) (hq : q < 5) (v : Value) : Lft w (wr.setCell ⟨gt, i * 5 + q, none⟩ v) gt toks (i + 1) := by
  refine ⟨h.but.set _ _, by simpa using h.lt, ?_, fun o => by rw [World.frozen?_setCell]; exact h.froz o⟩
  intro j t hj ht q' hq'
  rw [World.cell?_setCell_other]
  · exact h.cells j t hj ht q' hq'
  · intro e
    injection e with _ e _
    omega
set_option maxRecDepth 100000 in
set_option maxHeartbeats 16000000 in
theorem LexCuts_calls (x : Option Addr) (cap : Nat) (s : ByteArray) (w : World) (hv : BytesR w (.slice x s.size cap) s) (hcap : s.size ≤ cap) (hT : Tabs w) (hs : s.size ≤ 140737488351232) :
    Calls Tryd.prog 4 #[.slice x s.size cap] w fun e w' => e = .returned (.bool true) ∧ Below w.heap.size w w' := by
  have HRL := hid_of (rLex_calls x cap s w hv hcap)
  go_enter Tryd.func4, Tryd.ntmps4
  go_wp2_with fail
  refine HRL.out.mono ?_
  rintro e w1 ⟨hans, hB1⟩
  clear HRL
  cases hl : lexA s with
  | error f =>
    rw [hl] at hans
    have hans : e = .returned (.tuple #[.slice none 0 0, .agg (fltC f)]) := hans
    subst hans
    have HLA := hid_of hl
    have hWA : Below w1.heap.size w1 (w1.alloc (.cells (fltC f) 38)) := (Below.refl _ _).alloc (Nat.le_refl _) _
    have hW1 := below_step hB1 hB1.size hWA
    have hF1 : Blk (w1.alloc (.cells (fltC f) 38)) w1.heap.size 38 (fltC f) := Blk.new w1 _ _
    have HMK := hid_of (marked_calls x cap s (w1.alloc (.cells (fltC f) 38)) (hv.below hW1) hs)
    have hcf := fun W => faultF_calls f W
    obtain ⟨fc, fl, fk⟩ := f
    simp only [fltC, fltA] at HMK hF1 hW1 hcf ⊢
    clear hl hWA hB1
    go_wp2_with fail
    refine HMK.out.mono ?_
    rintro e w2 ⟨g, cap', rfl, hcap', hg, hab, hB2⟩
    have hW2 := below_step hW1 hW1.size hB2
    have HF2 := hid_of (Blk.of_below hF1 hB2)
    generalize w1.heap.size = bb at *
    clear HMK hF1 hB2 hW1 hg
    have HAB := hid_of hab
    have hms := markS_size s
    clear hab
    go_wp2_with fail
    go_loopg [6] 2 (fun f v6 wr => ∃ n : Nat, v6 = .int .i64 ((n : Nat) : Int) ∧ Hid (n + f = 2) ∧ Hid (Below w2.heap.size w2 wr))
    case atStart => exact ⟨0, rfl, rfl, Below.refl _ _⟩
    case round =>
      obtain ⟨n, rfl, HNF, HBr⟩ := hrel
      have hWr := below_step hW2 hW2.size HBr.out
      have habr := HAB.out.below HBr.out
      by_cases hn2 : n < 2
      · have k1 : ((n : Nat) : Int) < 2 := by omega
        have hsb := sub_bytes (lo := 0) (m := s.size) habr (by omega) (by omega)
        rw [Nat.zero_add, mark_head] at hsb
        have hsl := fun W => slice_to W (some ⟨g, 0, none⟩) (s.size + 4) cap' s.size (by omega)
        have HLX := hid_of (Lex_calls _ s wr hsb (hT.below hWr) (by omega))
        rw [HLA.out] at HLX
        generalize sliced (some ⟨g, 0, none⟩) 0 s.size cap' 1 = v1 at *
        clear hsb habr
        go_wp2_with fail
        refine HLX.out.mono ?_
        rintro e w3 ⟨he, hB3⟩
        have he : e = .returned (.tuple #[.slice none 0 0, .agg (fltC ⟨fc, fl, fk⟩)]) := he
        subst he
        simp only [fltC, fltA]
        clear HLX hsl
        have hA3 : Below w3.heap.size w3 (w3.alloc (.cells (fltA fc fl fk) 29)) := (Below.refl _ _).alloc (Nat.le_refl _) _
        have hB3a := below_step hB3 hB3.size hA3
        have hFF : Blk (w3.alloc (.cells (fltA fc fl fk) 29)) w3.heap.size 29 (fltA fc fl fk) := Blk.new w3 _ _
        have hB2a := below_step HBr.out HBr.out.size hB3a
        have hFb := Blk.of_below HF2.out hB2a
        go_upto_region 7 with fail
        generalize (w3.alloc (.cells (fltA fc fl fk) 29)) = W3 at *
        generalize w3.heap.size = fb at *
        have a0 : W3.cell? ⟨fb, 0, none⟩ = some (.int .i64 ((fc : Nat) : Int)) := hFF.cell rfl
        have a1 : W3.cell? ⟨fb, 1, none⟩ = some (.int .i64 ((fl : Nat) : Int)) := hFF.cell rfl
        have a2 : W3.cell? ⟨fb, 2, none⟩ = some (.int .i64 ((fk : Nat) : Int)) := hFF.cell rfl
        have b0 : W3.cell? ⟨bb, 0, none⟩ = some (.int .i64 ((fc : Nat) : Int)) := hFb.cell rfl
        have b1 : W3.cell? ⟨bb, 1, none⟩ = some (.int .i64 ((fl : Nat) : Int)) := hFb.cell rfl
        have b2 : W3.cell? ⟨bb, 2, none⟩ = some (.int .i64 ((fk : Nat) : Int)) := hFb.cell rfl
        go_wp2_with fail
        refine (hcf _).mono ?_
        rintro e w4 ⟨rfl, hB4⟩
        have HB2b := hid_of (below_step hB2a hB2a.size hB4)
        clear a0 a1 a2 b0 b1 b2 hFF hFb hB3 hA3 hB3a hB4 hB2a
        go_wp2_with fail
        go_loopg [9] 0 (fun f v9 wz => v9 = .int .i64 0 ∧ wz = w4)
        case atStart => exact ⟨rfl, rfl⟩
        case round =>
          obtain ⟨rfl, rfl⟩ := hrel
          go_wp2_with fail
          go_roundg (2 - (n + 1))
          case measure => have := HNF.out; omega
          case rel => exact ⟨n + 1, by go_num, by have := HNF.out; rw [Hid]; omega, HB2b.out⟩
      · have k1 : ¬ ((n : Nat) : Int) < 2 := by omega
        have HLF := hid_of (left_calls x cap g cap' s wr (hv.below hWr) habr hcap' hs)
        go_wp2_with fail
        refine HLF.out.mono ?_
        rintro e w8 ⟨rfl, m8, hw8⟩
        have hW8 : Below w.heap.size w w8 := by rw [hw8]; exact below_drewN hWr m8
        have HAW := hid_of (awake_calls w8 (hT.below hW8))
        clear HLF hw8
        go_wp2_with fail
        refine HAW.out.mono ?_
        rintro e w9 ⟨rfl, hb9⟩
        have hW9 := below_step hW8 hW8.size hb9
        clear HAW
        go_wp2_with fail
        go_ret
        exact ⟨rfl, hW9⟩
  | ok toks =>
    rw [hl] at hans
    obtain ⟨vw, rfl, hownw⟩ := hans
    obtain ⟨hsz, hpl⟩ := lexA_places s toks hl
    have hn : 0 < toks.length := by
      cases toks with
      | nil => exact absurd hpl (fun h => h)
      | cons t ts => simp
    obtain ⟨gw, capw, rfl⟩ := want_form hownw hn
    simp only [fltC, noFlt, fltA]
    have hWA : Below w1.heap.size w1 (w1.alloc (.cells #[.int .i64 0, .int .i64 0, .int .i64 0] 38)) := (Below.refl _ _).alloc (Nat.le_refl _) _
    have hW1 := below_step hB1 hB1.size hWA
    have hF1 : Blk (w1.alloc (.cells #[.int .i64 0, .int .i64 0, .int .i64 0] 38)) w1.heap.size 38 #[.int .i64 0, .int .i64 0, .int .i64 0] := Blk.new w1 _ _
    have hownw1 := ownsK_below hownw hWA
    have HMK := hid_of (marked_calls x cap s (w1.alloc (.cells #[.int .i64 0, .int .i64 0, .int .i64 0] 38)) (hv.below hW1) hs)
    have HLA := hid_of hl
    clear hl hpl hWA hB1 hownw
    go_wp2_with fail
    refine HMK.out.mono ?_
    rintro e w2 ⟨g, cap', rfl, hcap', hg, hab, hB2⟩
    have hW2 := below_step hW1 hW1.size hB2
    have hF2 := Blk.of_below hF1 hB2
    have hownw2 := ownsK_below hownw1 hB2
    generalize w1.heap.size = bb at *
    clear HMK hF1 hownw1 hB2 hW1 hg
    have HF2 := hid_of hF2
    have HOW := hid_of hownw2
    have HAB := hid_of hab
    have hgw : gw < w2.heap.size := (hownw2.lt gw rfl).2
    have hbb : bb < w2.heap.size := hF2.lt
    have hms := markS_size s
    have htl : toks.length ≤ 9223372036854775807 := by
      rcases hownw2.2 with ⟨_, e⟩ | ⟨g0, c0, cur, _, _, _, h1, h2, _⟩
      · omega
      · unfold maxLen at h2
        omega
    clear hF2 hownw2 hab
    go_wp2_with fail
    go_loopg [6] 2 (fun f v6 wr => ∃ n : Nat, v6 = .int .i64 ((n : Nat) : Int) ∧ Hid (n + f = 2) ∧ Hid (Below w2.heap.size w2 wr))
    case atStart => exact ⟨0, rfl, rfl, Below.refl _ _⟩
    case round =>
      obtain ⟨n, rfl, HNF, HBr⟩ := hrel
      have hWr := below_step hW2 hW2.size HBr.out
      have habr := HAB.out.below HBr.out
      by_cases hn2 : n < 2
      · have k1 : ((n : Nat) : Int) < 2 := by omega
        have hsb := sub_bytes (lo := 0) (m := s.size) habr (by omega) (by omega)
        rw [Nat.zero_add, mark_head] at hsb
        have hsl := fun W => slice_to W (some ⟨g, 0, none⟩) (s.size + 4) cap' s.size (by omega)
        have HLX := hid_of (Lex_calls _ s wr hsb (hT.below hWr) (by omega))
        rw [HLA.out] at HLX
        generalize sliced (some ⟨g, 0, none⟩) 0 s.size cap' 1 = v1 at *
        clear hsb habr
        go_wp2_with fail
        refine HLX.out.mono ?_
        rintro e w3 ⟨⟨vt, rfl, hownt⟩, hB3⟩
        obtain ⟨gt, capt, rfl⟩ := tok_form hownt hn
        simp only [fltC, noFlt, fltA]
        clear HLX hsl
        have hgt : wr.heap.size ≤ gt := (hownt.lt gt rfl).1
        have hA3 : Below w3.heap.size w3 (w3.alloc (.cells #[.int .i64 0, .int .i64 0, .int .i64 0] 29)) := (Below.refl _ _).alloc (Nat.le_refl _) _
        have hB3a := below_step hB3 hB3.size hA3
        have hFF : Blk (w3.alloc (.cells #[.int .i64 0, .int .i64 0, .int .i64 0] 29)) w3.heap.size 29 #[.int .i64 0, .int .i64 0, .int .i64 0] := Blk.new w3 _ _
        have hB2a := below_step HBr.out HBr.out.size hB3a
        have hFb := Blk.of_below HF2.out hB2a
        have hownt3 := ownsT_below hownt hA3
        go_upto_region 7 with fail
        generalize (w3.alloc (.cells #[.int .i64 0, .int .i64 0, .int .i64 0] 29)) = W3 at *
        generalize w3.heap.size = fb at *
        have a0 : W3.cell? ⟨fb, 0, none⟩ = some (.int .i64 0) := hFF.cell rfl
        have a1 : W3.cell? ⟨fb, 1, none⟩ = some (.int .i64 0) := hFF.cell rfl
        have a2 : W3.cell? ⟨fb, 2, none⟩ = some (.int .i64 0) := hFF.cell rfl
        have b0 : W3.cell? ⟨bb, 0, none⟩ = some (.int .i64 0) := hFb.cell rfl
        have b1 : W3.cell? ⟨bb, 1, none⟩ = some (.int .i64 0) := hFb.cell rfl
        have b2 : W3.cell? ⟨bb, 2, none⟩ = some (.int .i64 0) := hFb.cell rfl
        have hcf := faultF_calls noFlt W3
        simp only [fltC, noFlt, fltA] at hcf
        have hnn : (((toks.length : Nat) : Int) != ((toks.length : Nat) : Int)) = false := by simp
        go_wp2_with fail
        refine hcf.mono ?_
        rintro e w4 ⟨rfl, hB4⟩
        have hB2b := below_step hB2a hB2a.size hB4
        have HL4 := hid_of (Lft.start (ownsT_below hownt3 hB4))
        have HOW4 := hid_of (ownsK_below HOW.out hB2b)
        clear a0 a1 a2 b0 b1 b2 hcf hFF hFb hownt hownt3 hB3 hA3 hB3a hB4 hB2a
        go_wp2_with fail
        clear hnn
        have HB2b := hid_of hB2b
        clear hB2b
        have hgtw : w2.heap.size ≤ gt := Nat.le_trans HBr.out.size hgt
        go_loopg [9] toks.length (fun f v9 wz => ∃ i : Nat, v9 = .int .i64 ((i : Nat) : Int) ∧ i ≤ toks.length ∧ Hid (i + f = toks.length) ∧ Hid (Lft w4 wz gt toks i))
        case atStart => exact ⟨0, rfl, Nat.zero_le _, Nat.zero_add _, HL4.out⟩
        case round =>
          clear HL4
          obtain ⟨i, rfl, hil, HIF, HLf⟩ := hrel
          have hBz := HB2b.out
          by_cases hlt : i < toks.length
          · have i0' : (0 : Int) ≤ ((i : Nat) : Int) := by omega
            have i1 : ((i : Nat) : Int) < ((toks.length : Nat) : Int) := by omega
            obtain ⟨t, ht⟩ : ∃ t, toks[i]? = some t := ⟨_, List.getElem?_eq_getElem hlt⟩
            have q0 := HLf.out.cells i t (Nat.le_refl _) ht 0 (by omega)
            have q1 := HLf.out.cells i t (Nat.le_refl _) ht 1 (by omega)
            have q2 := HLf.out.cells i t (Nat.le_refl _) ht 2 (by omega)
            have q3 := HLf.out.cells i t (Nat.le_refl _) ht 3 (by omega)
            have q4 := HLf.out.cells i t (Nat.le_refl _) ht 4 (by omega)
            have hwz : ∀ o, wr.cell? ⟨gw, o, none⟩ = w4.cell? ⟨gw, o, none⟩ := fun o => World.cell?_of_block (HLf.out.but.block gw (by have := hBz.size; omega) (by omega))
            have z0 := (hwz _).trans (want_at HOW4.out ht 0 (by omega))
            have z1 := (hwz _).trans (want_at HOW4.out ht 1 (by omega))
            have z2 := (hwz _).trans (want_at HOW4.out ht 2 (by omega))
            have z3 := (hwz _).trans (want_at HOW4.out ht 3 (by omega))
            have z4 := (hwz _).trans (want_at HOW4.out ht 4 (by omega))
            have HT := hid_of ht
            have hcs := fun W => same5_calls t W
            obtain ⟨kd, tx, vl, tl, tc⟩ := t
            simp only [tokC, tokA, List.getElem?_toArray, List.getElem?_cons_zero, List.getElem?_cons_succ, Nat.add_zero] at q0 q1 q2 q3 q4 z0 z1 z2 z3 z4 hcs
            clear ht hwz hBz
            go_upto_region 12 with fail
            go_cut [55] (fun v55 wx => v55 = .bool false ∧ Hid (Below wr.heap.size wr wx))
            case first =>
              go_region_with (go_at_call 16; refine (hcs _).mono ?_; rintro e w9 ⟨rfl, hb9⟩)
              all_goals
                go_wp2_with fail
                go_meet
                exact ⟨rfl, below_step (Below.refl _ _).drew (Nat.le_refl _) hb9⟩
            case rest =>
              obtain ⟨rfl, HBx⟩ := hcut
              have hLx := HLf.out.to HBx.out
              clear q0 q1 q2 q3 q4 z0 z1 z2 z3 z4
              have q0 := hLx.cells i _ (Nat.le_refl _) HT.out 0 (by omega)
              have q1 := hLx.cells i _ (Nat.le_refl _) HT.out 1 (by omega)
              have q2 := hLx.cells i _ (Nat.le_refl _) HT.out 2 (by omega)
              have q3 := hLx.cells i _ (Nat.le_refl _) HT.out 3 (by omega)
              have q4 := hLx.cells i _ (Nat.le_refl _) HT.out 4 (by omega)
              simp only [tokC, tokA, List.getElem?_toArray, List.getElem?_cons_zero, List.getElem?_cons_succ, Nat.add_zero] at q0 q1 q2 q3 q4
              have f0 := hLx.froz (i * 5)
              have f1 := hLx.froz (i * 5 + 1)
              have f2 := hLx.froz (i * 5 + 2)
              have f3 := hLx.froz (i * 5 + 3)
              have f4 := hLx.froz (i * 5 + 4)
              go_wp2_with fail
              have hL9 := ((((hLx.set 0 (by omega) (.int .i64 9)).set' 1 (by omega) (.string ⟨#[]⟩)).set' 2 (by omega) (.int .u64 0)).set' 3 (by omega) (.int .i64 0)).set' 4 (by omega) (.int .i64 0)
              go_roundg (toks.length - (i + 1))
              case measure => have := HIF.out; omega
              case rel => exact ⟨i + 1, by go_num, by omega, by have := HIF.out; rw [Hid]; omega, hL9⟩
          · obtain rfl : i = toks.length := by omega
            have hend := hBz.trans (HLf.out.but.below hgtw hBz.size)
            go_wp2_with fail
            go_roundg (2 - (n + 1))
            case measure => have := HNF.out; omega
            case rel => exact ⟨n + 1, by go_num, by have := HNF.out; rw [Hid]; omega, hend⟩
      · have k1 : ¬ ((n : Nat) : Int) < 2 := by omega
        have HLF := hid_of (left_calls x cap g cap' s wr (hv.below hWr) habr hcap' hs)
        go_wp2_with fail
        refine HLF.out.mono ?_
        rintro e w8 ⟨rfl, m8, hw8⟩
        have hW8 : Below w.heap.size w w8 := by rw [hw8]; exact below_drewN hWr m8
        have HAW := hid_of (awake_calls w8 (hT.below hW8))
        clear HLF hw8
        go_wp2_with fail
        refine HAW.out.mono ?_
        rintro e w9 ⟨rfl, hb9⟩
        have hW9 := below_step hW8 hW8.size hb9
        clear HAW
        go_wp2_with fail
        go_ret
        exact ⟨rfl, hW9⟩
end Go.Proofs.YtkgppagpjbkhmaaDoor
