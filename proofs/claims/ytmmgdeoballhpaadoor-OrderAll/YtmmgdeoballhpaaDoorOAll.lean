/- The statement OrderAll, walked. -/
import Derived.Test.YtmmgdeoballhpaaDoorJ21
import Derived.Test.YtmmgdeoballhpaaDoorOrdExt
import Derived.Test.YtmmgdeoballhpaaDoorJ19
import Derived.Test.YtmmgdeoballhpaaDoorJ13
namespace Go.Proofs.YtmmgdeoballhpaaDoor
open Go.RowKit Go.Shelf Sx

theorem RdL.begin {W : World} {B m : Nat} {v : Value} (h : W.ownsRow B 29 1 v (0 + 1) ([] ++ [.slice none 0 0])) : RdL W B v [.slice none 0 0] ((prm m 0).map toI) := by
  refine ⟨h, rfl, fun i x l hx hl => ?_⟩
  have hi : i = 0 := by have := (List.getElem?_eq_some_iff.1 hx).1; simp at this; omega
  subst hi
  simp [prm, toI] at hx hl
  subst hx
  subst hl
  exact World.ownsRow_nil _ _ _ _
theorem encN_snocJ (l : List Nat) (x : Nat) : encJ (toI l) ++ [.int .i64 ((x : Nat) : Int)] = encJ (toI (l ++ [x])) := by simp [encJ, toI]
/-- A list of the lists, where it lies, and what it holds. -/
theorem RdL.look {W : World} {B : Nat} {a : Option Addr} {cap : Nat} {vs : List Value} {ls : List (List Nat)} (h : RdL W B (.slice a vs.length cap) vs (ls.map toI)) {i : Nat} {l : List Nat} (hl : ls[i]? = some l) :
    ∃ s xa xc, a = some ⟨s, 0, none⟩ ∧ i < vs.length ∧ ∀ W', Below W.heap.size W W' → W'.cell? ⟨s, i, none⟩ = some (.slice xa l.length xc) ∧ W'.ownsRow 0 3 1 (.slice xa l.length xc) (toI l).length (encJ (toI l)) := by
  have hlen : vs.length = ls.length := by have := h.len; simpa using this
  have hi : i < vs.length := by have := (List.getElem?_eq_some_iff.1 hl).1; omega
  have hx : vs[i]? = some vs[i] := List.getElem?_eq_getElem hi
  generalize vs[i] = x at hx
  have hr := h.row i x (toI l) hx (by rw [List.getElem?_map, hl]; rfl)
  obtain ⟨xa, xc, e⟩ := owns_len hr
  rw [toI_length] at e
  subst e
  obtain ⟨s, cp, e1, hs, hc⟩ := owns_cells h.own rfl (by omega)
  injection e1 with e1 _ _
  refine ⟨s, xa, xc, e1, hi, fun W' hW => ⟨?_, owns_below' hr hW⟩⟩
  rw [hW.cell (p := ⟨s, i, none⟩) hs]
  exact hc i _ hx
/-- Of the first i lists those that are linear. -/
def gdK (L : List Nat) (PS : List (List Nat)) (i : Nat) : List (List Nat) := (PS.take i).filter (fun l => linB L (toI l))
theorem gdK_zero (L : List Nat) (PS : List (List Nat)) : gdK L PS 0 = [] := by simp [gdK]
theorem gdK_yes {L : List Nat} {PS : List (List Nat)} {i : Nat} {l : List Nat} (h : PS[i]? = some l) (hl : linB L (toI l) = true) : gdK L PS (i + 1) = gdK L PS i ++ [l] := by
  obtain ⟨hi, e⟩ := List.getElem?_eq_some_iff.1 h
  unfold gdK
  rw [List.take_succ_eq_append_getElem hi, List.filter_append, e, List.filter_cons_of_pos (p := fun l => linB L (toI l)) hl]
  rfl
theorem gdK_no {L : List Nat} {PS : List (List Nat)} {i : Nat} {l : List Nat} (h : PS[i]? = some l) (hl : linB L (toI l) = false) : gdK L PS (i + 1) = gdK L PS i := by
  obtain ⟨hi, e⟩ := List.getElem?_eq_some_iff.1 h
  unfold gdK
  rw [List.take_succ_eq_append_getElem hi, List.filter_append, e, List.filter_cons_of_neg (by rw [hl]; simp)]
  exact List.append_nil _
/-- What Extensions answers where all orders fit. -/
theorem ext_all {w w' : World} {L : List Nat} {most : Int} {e : Ending} (h : ExtR w L most e w') (hl : (allO L).length ≤ most.toNat) : ∃ v, e = .returned (.tuple #[v, .bool true]) ∧ BlocksR w' v (allO L) ∧ Below w.heap.size w w' := by
  obtain ⟨v, q, rfl, ⟨vs, hC, hqq⟩, hB⟩ := h
  rw [List.take_of_length_le hl] at hC
  rw [decide_eq_true hl] at hqq
  subst hqq
  exact ⟨v, rfl, hC.blocks, hB⟩
set_option maxRecDepth 100000 in
set_option maxHeartbeats 16000000 in
theorem OrderAll_calls (n : Int) (v1 v2 : Value) (l1 l2 : List (Int × Int)) (w : World) (hT : Tab w) (a1 : PArg w v1 l1) (a2 : PArg w v2 l2) :
    Calls Tryd.prog 8 #[.int .i64 n, v1, v2] w fun e w' => e = .returned (.bool true) ∧ Below w.heap.size w w' := by
  obtain ⟨i0, hi, hz0, hz1, hz2⟩ := info_parts Tryd.infoint
  obtain ⟨i1, hj, hy0, hy1, hy2⟩ := info_parts Tryd.infoints
  go_enter Tryd.func8, Tryd.ntmps8
  go_upto_region 1 with fail
  go_cut [27] (fun v27 wx => ∃ q : Bool, v27 = .bool q ∧ Hid (q = false → 0 ≤ n ∧ n ≤ 5) ∧ wx = w)
  case first =>
    by_cases hneg : n < 0
    · go_wp2_with fail
      go_meet
      case rel => exact ⟨true, rfl, (fun e => by cases e), rfl⟩
    · by_cases hbig : (5 : Int) < n
      · go_wp2_with fail
        go_meet
        case rel => exact ⟨true, rfl, (fun e => by cases e), rfl⟩
      · go_wp2_with fail
        go_meet
        case rel => exact ⟨false, rfl, (fun _ => by omega), rfl⟩
  case rest =>
  obtain ⟨q, rfl, HQ, hwc⟩ := hcut
  obtain rfl : w = _ := hwc.symm
  go_upto_if 27 with fail
  go_cut [0] (fun v0 wx => ∃ m : Nat, v0 = .int .i64 ((m : Nat) : Int) ∧ m ≤ 5 ∧ wx = w)
  case first =>
    cases q
    · obtain ⟨m, rfl⟩ : ∃ m : Nat, n = (m : Int) := ⟨n.toNat, by have := HQ.out rfl; omega⟩
      have hmm : m ≤ 5 := by have := HQ.out rfl; omega
      go_wp2_with fail
      go_meet
      case rel => exact ⟨m, rfl, hmm, rfl⟩
    · go_wp2_with fail
      go_meet
      case rel => exact ⟨5, rfl, by omega, rfl⟩
  case rest =>
  obtain ⟨m, rfl, hm5, hwc⟩ := hcut
  obtain rfl : w = _ := hwc.symm
  go_wp2_with fail
  refine (OfT ((m : Nat) : Int) v1 l1 _ a1).mono ?_
  rintro e w1 ⟨b, c, rfl, hM1⟩
  have hB1 := hM1.below
  have hR1 := hM1.rel
  have hLn := (twO_of ((m : Nat) : Int) l1).len
  rw [show clampN ((m : Nat) : Int) = m by unfold clampN; omega] at hLn
  have HLo := hid_of hR1.low
  generalize hLL : ofL ((m : Nat) : Int) l1 = L at *
  clear hLL hM1
  subst hLn
  go_wp2_with fail
  refine (lives2_calls w1 (hT.step hB1)).mono ?_
  rintro e w3 ⟨rfl, hB3⟩
  have HX3 : Hid (Below w.heap.size w w3) := below_step hB1 hB1.size hB3
  have HR3 := hid_of (hR1.below hB3)
  clear hB1 hR1 hB3
  have hnw := cell_one_new w3 (.slice none 0 0) 29
  have HNW := hid_of hnw
  clear hnw
  go_wp2_with (at_builtin; refine wpList_append_own_at _ rfl _ _ 25 rfl w3.heap.size 29 i1 (.slice none 0 0) 1 24 Tryd.underlying25 hj hy0 hy1 hy2 rfl (by decide) (.slice none 0 0) 0 [] rfl (World.ownsRow_nil _ _ _ _) ⟨_, 0, none⟩ 1 1 [.slice none 0 0] rfl rfl HNW.out (by simp [Value.oneCell']) (by unfold maxLen; omega) (by omega) (by simp) ?_; intro v8 w4 hown4 hgrow4 _ _)
  have HT4 : Hid (RdL w4 w3.heap.size v8 [.slice none 0 0] ((prm L.length 0).map toI)) := RdL.begin hown4
  have HB4 : Hid (Below w3.heap.size w3 w4) := ((Below.refl w3.heap.size w3).alloc (Nat.le_refl _) _).grown hgrow4 (by simp) (fun q e => by simp [Value.ownBlock] at e)
  clear HNW hown4 hgrow4
  go_loopg [8, 9] L.length (fun gk tv i wr => ∃ (k : Nat) (vs : List Value), i = .int .i64 ((k : Nat) : Int) ∧ k ≤ L.length ∧ Hid (k + gk = L.length) ∧ Hid (RdL wr w3.heap.size tv vs ((prm L.length k).map toI)) ∧ Hid (Below w3.heap.size w3 wr))
  case atStart => exact ⟨0, _, rfl, Nat.zero_le _, Nat.zero_add _, HT4.out, HB4.out⟩
  case round =>
    clear HT4 HB4
    obtain ⟨k, vs, rfl, hk, HKF, HT, HB⟩ := hrel
    obtain ⟨ta, tcap, rfl⟩ := owns_len HT.out.own
    have hvl : vs.length = (prm L.length k).length := by have := HT.out.len; simpa using this
    have hvb : vs.length ≤ 200 := by rw [hvl]; exact prm_small _ hm5 _ (by omega)
    have HVL := hid_of hvl
    clear hvl
    by_cases hlt : k < L.length
    · have hWl := HB.out.size
      go_wp2_with fail
      generalize hw5 : wr = w5 at *
      clear hw5
      go_loopg [10, 11] vs.length (fun gk nv ii wq => ∃ (i : Nat) (us : List Value), ii = .int .i64 ((i : Nat) : Int) ∧ i ≤ vs.length ∧ us.length ≤ 5 * i ∧ Hid (i + gk = vs.length) ∧ Hid (RdL wq w5.heap.size nv us ((moreP L.length ((prm L.length k).take i)).map toI)) ∧ Hid (Below w5.heap.size w5 wq))
      case atStart => exact ⟨0, [], rfl, Nat.zero_le _, Nat.zero_le _, Nat.zero_add _, RdL.nil _ _, Below.refl _ _⟩
      case round =>
        obtain ⟨i, us, rfl, hin, hul, HIF, HN, HBI⟩ := hrel
        obtain ⟨na, ncap, rfl⟩ := owns_len HN.out.own
        by_cases hil : i < vs.length
        · obtain ⟨l, hl⟩ : ∃ l, (prm L.length k)[i]? = some l := ⟨_, List.getElem?_eq_getElem (by rw [← HVL.out]; exact hil)⟩
          obtain ⟨s, xa, xc, e1, _, hlk⟩ := HT.out.look hl
          subst e1
          have hll5 : l.length ≤ 5 := by rw [(prm_ok _ _ l (List.mem_of_getElem? hl)).len]; omega
          have HLK := hid_of hlk
          have HL := hid_of hl
          have I0 : (0 : Int) ≤ ((i : Nat) : Int) := by omega
          have I1 : ((i : Nat) : Int) < ((vs.length : Nat) : Int) := by omega
          clear hl hlk
          go_wp2_with fail
          go_loopg [10, 12] L.length (fun gk nv ii wq => ∃ (p : Nat) (us : List Value), ii = .int .i64 ((p : Nat) : Int) ∧ p ≤ L.length ∧ us.length ≤ 5 * i + p ∧ Hid (p + gk = L.length) ∧ Hid (RdL wq w5.heap.size nv us ((nextK L.length (prm L.length k) i l p).map toI)) ∧ Hid (Below w5.heap.size w5 wq))
          case atStart => exact ⟨0, us, rfl, Nat.zero_le _, by omega, Nat.zero_add _, by rw [Hid, nextK_zero]; exact HN.out, HBI.out⟩
          case round =>
            clear HN HBI
            obtain ⟨p, us, rfl, hpn, hul2, HPF, HN, HBP⟩ := hrel
            obtain ⟨na, ncap, rfl⟩ := owns_len HN.out.own
            have hWp := HBP.out.size
            by_cases hpl : p < L.length
            · obtain ⟨c0, hrow⟩ := HLK.out wr HBP.out
              have hh := has2_calls (.slice xa l.length xc) l p wr (owns_intsR hrow) (by omega)
              cases hcp : l.contains p
              · rw [hcp] at hh
                have HNK := hid_of (nextK_yes (m := L.length) (ls := prm L.length k) (i := i) hcp)
                clear hcp hrow
                go_wp2_with fail
                refine hh.mono ?_
                rintro e w6 ⟨rfl, hB6⟩
                clear hh c0
                have HB6 : Hid (Below w5.heap.size w5 w6) := below_step HBP.out HBP.out.size hB6
                have HN6 := hid_of (HN.out.step hB6)
                have hz6 := HB6.out.size
                have hb6a := (Below.refl w6.heap.size w6).alloc (Nat.le_refl _) (.cells #[] 3)
                have hc6 := HLK.out (w6.alloc (.cells #[] 3)) (below_step HB6.out HB6.out.size hb6a)
                have c0 := hc6.1
                have HI6 := hid_of (owns_intsR hc6.2)
                have HE6 := hid_of (Blk.new w6 3 #[])
                clear hB6 hb6a hc6 HN HBP
                go_wp2_with (first
                  | (at_builtin; refine wpList_append_lit0 rfl _ _ rfl w6.heap.size w6.heap.size HE6.out (by omega) rfl _ rfl (toI l) HI6.out (by rw [toI_length]; omega) ?_; intro v7 w7 hown7 hg7; rw [toI_length] at hown7; obtain ⟨x7, c7, rfl⟩ := owns_len hown7; have HB7 : Hid (Below w6.heap.size w6 w7) := ((Below.refl w6.heap.size w6).alloc (Nat.le_refl _) _).grown hg7 (by simp) (fun q e => by injection e with e; omega); have HO7 := hid_of hown7; have hz7 := HB7.out.size; clear c0 HI6 HE6 hown7 hg7)
                  | (at_builtin; refine wpList_append_own_at _ rfl _ _ 29 rfl w6.heap.size 3 i0 (.int .i64 0) 1 8 Tryd.underlying29 hi hz0 hz1 hz2 rfl (by decide) (.slice x7 l.length c7) l.length (encJ (toI l)) rfl (HO7.out.alloc _) ⟨_, 0, none⟩ 1 1 [.int .i64 ((p : Nat) : Int)] rfl rfl (news_int w7 p) (by simp [Value.oneCell']) (by unfold maxLen; omega) (by omega) (by simp; omega) ?_; intro v8' w8 hown8 hg8 _ _; obtain ⟨x8, c8, rfl⟩ := owns_len hown8; have HB8 : Hid (Below w6.heap.size w6 w8) := (HB7.out.alloc HB7.out.size _).grown hg8 (by simp; omega) (fun q e => (HO7.out.lt q e).1); have hnw := cell_one_new w8 (.slice x8 (l.length + 1) c8) 29; have HNW := hid_of hnw; have HN8 := hid_of (HN6.out.step HB8.out); have HO8 := hid_of hown8; have hz8 := HB8.out.size; clear hnw hown8 hg8 HO7 HB7 HN6)
                  | (at_builtin; refine wpList_append_own_at _ rfl _ _ 25 rfl w5.heap.size 29 i1 (.slice none 0 0) 1 24 Tryd.underlying25 hj hy0 hy1 hy2 rfl (by decide) (.slice na us.length ncap) us.length us rfl (HN8.out.own.alloc _) ⟨_, 0, none⟩ 1 1 [.slice x8 (l.length + 1) c8] rfl rfl HNW.out (by simp [Value.oneCell']) (by unfold maxLen; omega) (by omega) (by simp; omega) ?_; intro v9 w9 hown9 hg9 _ _))
                have HO8' : Hid (w8.ownsRow 0 3 1 (.slice x8 (l.length + 1) c8) (toI (l ++ [p])).length (encJ (toI (l ++ [p])))) := by
                  rw [Hid, toI_length, List.length_append, List.length_singleton, ← encN_snocJ]
                  exact owns_lo HO8.out (Nat.zero_le _)
                have hN9 := HN8.out.add HO8'.out hown9 hg9
                have hB58 : Below w5.heap.size w5 w8 := below_step HB6.out HB6.out.size HB8.out
                have hB9 : Below w5.heap.size w5 w9 := (hB58.alloc hB58.size _).grown hg9 (by simp; omega) (fun q e => (HN8.out.own.lt q e).1)
                go_roundg (L.length - (p + 1))
                case measure => have := HPF.out; omega
                case rel =>
                  refine ⟨p + 1, us ++ [Value.slice x8 (l.length + 1) c8], by go_num, by omega, by simp; omega, by have := HPF.out; rw [Hid]; omega, ?_, hB9⟩
                  rw [Hid, HNK.out, List.map_append]
                  exact hN9
              · rw [hcp] at hh
                have HNK := hid_of (nextK_no (m := L.length) (ls := prm L.length k) (i := i) hcp)
                clear hcp hrow
                go_wp2_with fail
                refine hh.mono ?_
                rintro e w6 ⟨rfl, hB6⟩
                clear hh c0
                go_wp2_with fail
                go_roundg (L.length - (p + 1))
                case measure => have := HPF.out; omega
                case rel => exact ⟨p + 1, us, by go_num, by omega, by omega, by have := HPF.out; rw [Hid]; omega, by rw [Hid, HNK.out]; exact HN.out.step hB6, below_step HBP.out HBP.out.size hB6⟩
            · obtain rfl : p = L.length := by omega
              have HNA := hid_of (nextK_all (m := L.length) HL.out)
              go_wp2_with fail
              go_roundg (vs.length - (i + 1))
              case measure => have := HIF.out; omega
              case rel => exact ⟨i + 1, us, by go_num, by omega, by omega, by have := HIF.out; rw [Hid]; omega, by rw [Hid, ← HNA.out]; exact HN.out, HBP.out⟩
        · have hie : i = vs.length := by omega
          have hN := HN.out
          rw [moreP_all _ _ (by rw [← HVL.out]; exact hie)] at hN
          have HN2 := hid_of hN
          clear hN HN
          go_wp2_with fail
          go_roundg (L.length - (k + 1))
          case measure => have := HKF.out; omega
          case rel => exact ⟨k + 1, us, by go_num, by omega, by have := HKF.out; rw [Hid]; omega, HN2.out.lo (by omega), below_step HB.out HB.out.size HBI.out⟩
    · obtain rfl : k = L.length := by omega
      have HAG := hid_of (all_good (L := L) (by omega) HLo.out)
      have HAL2 := hid_of (all_good (L := L) (by omega) HLo.out)
      have HP5 : Hid (∀ l ∈ prm L.length L.length, l.length ≤ 5) := fun l hl => by rw [(prm_ok _ _ l hl).len]; exact hm5
      have HRB := hid_of (HR3.out.below HB.out)
      have HXB : Hid (Below w.heap.size w wr) := below_step HX3.out HX3.out.size HB.out
      obtain ⟨PS, hPS⟩ : ∃ PS, prm L.length L.length = PS := ⟨_, rfl⟩
      rw [hPS] at HT HAG HP5 HVL
      clear hPS HKF HB HR3 HX3
      go_wp2_with fail
      generalize hw6 : wr = w6 at *
      clear hw6
      go_loopg [13, 14, 15] vs.length (fun gk gv qv ii wq => ∃ (i : Nat) (us : List Value) (q : Bool), ii = .int .i64 ((i : Nat) : Int) ∧ qv = .bool q ∧ i ≤ vs.length ∧ us.length ≤ i ∧ Hid (i + gk = vs.length) ∧ Hid (RdL wq w6.heap.size gv us ((gdK L PS i).map toI)) ∧ Hid (q = true ↔ ∃ o ∈ gdK L PS i, Tog (toI o) l2) ∧ Hid (Below w6.heap.size w6 wq))
      case atStart => exact ⟨0, [], false, rfl, rfl, Nat.zero_le _, Nat.zero_le _, Nat.zero_add _, by rw [Hid, gdK_zero]; exact RdL.nil _ _, by rw [Hid, gdK_zero]; simp, Below.refl _ _⟩
      case round =>
        obtain ⟨i, us, q, rfl, rfl, hin, hul, HIF, HN, HQI, HBI⟩ := hrel
        obtain ⟨na, ncap, rfl⟩ := owns_len HN.out.own
        have hWi := HBI.out.size
        have HXI : Hid (Below w.heap.size w wr) := below_step HXB.out HXB.out.size HBI.out
        by_cases hil : i < vs.length
        · obtain ⟨l, hl⟩ : ∃ l, PS[i]? = some l := ⟨_, List.getElem?_eq_getElem (by rw [← HVL.out]; exact hil)⟩
          obtain ⟨s, xa, xc, e1, _, hlk⟩ := HT.out.look hl
          subst e1
          have hll5 : l.length ≤ 5 := HP5.out l (List.mem_of_getElem? hl)
          have HLK := hid_of hlk
          have HL := hid_of hl
          have I0 : (0 : Int) ≤ ((i : Nat) : Int) := by omega
          have I1 : ((i : Nat) : Int) < ((vs.length : Nat) : Int) := by omega
          clear hl hlk
          obtain ⟨c0, hrow⟩ := HLK.out wr HBI.out
          have hlc := oLinear_calls b c L (.slice xa l.length xc) (toI l) wr (HRB.out.below HBI.out) (hT.step HXI.out) (owns_intsR hrow)
          cases hlin : linB L (toI l)
          · rw [hlin] at hlc
            have HGK := hid_of (gdK_no HL.out hlin)
            have HLC := hid_of hlc
            clear hrow hlc hlin
            go_wp2_with fail
            refine HLC.out.mono ?_
            rintro e w7 ⟨rfl, hB7⟩
            clear HLC c0
            go_wp2_with fail
            go_roundg (vs.length - (i + 1))
            case measure => have := HIF.out; omega
            case rel => exact ⟨i + 1, us, q, by go_num, rfl, by omega, by omega, by have := HIF.out; rw [Hid]; omega, by rw [Hid, HGK.out]; exact HN.out.step hB7, by rw [Hid, HGK.out]; exact HQI.out, below_step HBI.out HBI.out.size hB7⟩
          · rw [hlin] at hlc
            have HGK := hid_of (gdK_yes HL.out hlin)
            have HLC := hid_of hlc
            clear hrow hlc hlin
            go_wp2_with fail
            refine HLC.out.mono ?_
            rintro e w7 ⟨rfl, hB7⟩
            have HB7 : Hid (Below w6.heap.size w6 w7) := below_step HBI.out HBI.out.size hB7
            have HN7 := hid_of (HN.out.step hB7)
            have hc7 := HLK.out w7 HB7.out
            have HO7 := hid_of hc7.2
            have c1 := hc7.1
            have hnw := cell_one_new w7 (.slice xa l.length xc) 29
            have HNW := hid_of hnw
            have hz7 := HB7.out.size
            clear HLC c0 hc7 hnw HN hB7
            cases q
            · go_wp2_with (at_builtin; refine wpList_append_own_at _ rfl _ _ 25 rfl w6.heap.size 29 i1 (.slice none 0 0) 1 24 Tryd.underlying25 hj hy0 hy1 hy2 rfl (by decide) (.slice na us.length ncap) us.length us rfl (HN7.out.own.alloc _) ⟨_, 0, none⟩ 1 1 [.slice xa l.length xc] rfl rfl HNW.out (by simp [Value.oneCell']) (by unfold maxLen; omega) (by omega) (by simp; omega) ?_; intro v8 w8 hown8 hg8 _ _; have HN8 := hid_of (HN7.out.add HO7.out hown8 hg8); have HB8 : Hid (Below w6.heap.size w6 w8) := (HB7.out.alloc HB7.out.size _).grown hg8 (by simp; omega) (fun q e => (HN7.out.own.lt q e).1); clear c1; have c1 := (HLK.out w8 HB8.out).1)
              have HX8 : Hid (Below w.heap.size w w8) := below_step HXB.out HXB.out.size HB8.out
              refine (togR_calls (.slice xa l.length xc) v2 (toI l) l2 w8 (owns_intsR (HLK.out w8 HB8.out).2) (a2.below HX8.out) (by rw [toI_length]; omega)).mono ?_
              rintro e w9 ⟨r, rfl, hr, hB9⟩
              have HR := hid_of hr
              clear hr c1
              go_wp2_with fail
              go_roundg (vs.length - (i + 1))
              case measure => have := HIF.out; omega
              case rel =>
                refine ⟨i + 1, us ++ [Value.slice xa l.length xc], r, by go_num, rfl, by omega, by simp; omega, by have := HIF.out; rw [Hid]; omega, ?_, ?_, below_step HB8.out HB8.out.size hB9⟩
                · rw [Hid, HGK.out, List.map_append]
                  exact HN8.out.step hB9
                · rw [Hid, HGK.out, HR.out]
                  constructor
                  · intro h
                    exact ⟨l, by simp, h⟩
                  · rintro ⟨o, ho, h⟩
                    rcases List.mem_append.1 ho with ho | ho
                    · have := HQI.out.2 ⟨o, ho, h⟩
                      first | exact absurd this (by simp) | cases this
                    · have : o = l := by simpa using ho
                      rw [← this]
                      exact h
            · go_wp2_with (at_builtin; refine wpList_append_own_at _ rfl _ _ 25 rfl w6.heap.size 29 i1 (.slice none 0 0) 1 24 Tryd.underlying25 hj hy0 hy1 hy2 rfl (by decide) (.slice na us.length ncap) us.length us rfl (HN7.out.own.alloc _) ⟨_, 0, none⟩ 1 1 [.slice xa l.length xc] rfl rfl HNW.out (by simp [Value.oneCell']) (by unfold maxLen; omega) (by omega) (by simp; omega) ?_; intro v8 w8 hown8 hg8 _ _; have HN8 := hid_of (HN7.out.add HO7.out hown8 hg8); have HB8 : Hid (Below w6.heap.size w6 w8) := (HB7.out.alloc HB7.out.size _).grown hg8 (by simp; omega) (fun q e => (HN7.out.own.lt q e).1); clear c1)
              go_roundg (vs.length - (i + 1))
              case measure => have := HIF.out; omega
              case rel =>
                refine ⟨i + 1, us ++ [Value.slice xa l.length xc], true, by go_num, rfl, by omega, by simp; omega, by have := HIF.out; rw [Hid]; omega, ?_, ?_, HB8.out⟩
                · rw [Hid, HGK.out, List.map_append]
                  exact HN8.out
                · rw [Hid, HGK.out]
                  obtain ⟨o, ho, h⟩ := HQI.out.1 (by first | rfl | trivial)
                  exact ⟨fun _ => ⟨o, by simp [ho], h⟩, fun _ => rfl⟩
        · obtain rfl : i = vs.length := by omega
          have hgd : gdK L PS vs.length = allO L := by
            unfold gdK
            rw [List.take_of_length_le (by rw [HVL.out]; exact Nat.le_refl _)]
            exact HAG.out
          have hN := HN.out
          have hQ := HQI.out
          rw [hgd] at hN hQ
          have hal : (allO L).length ≤ 200 := by
            rw [← HAG.out]
            refine Nat.le_trans (List.length_filter_le _ _) ?_
            rw [← HVL.out]
            exact hvb
          have hul' : us.length = (allO L).length := by have := hN.len; simpa using this
          have HU := hid_of hul'
          have HN2 := hid_of hN
          have HQ2 := hid_of hQ
          have HAL := hid_of hal
          have HA5 : Hid (∀ o ∈ allO L, o.length ≤ 5) := fun o ho => by
            rw [← HAG.out] at ho
            exact HP5.out o (List.mem_filter.1 ho).1
          have HRI := hid_of (HRB.out.below HBI.out)
          clear hgd hN hQ hal hul' hul HN HQI HIF HVL HT HP5 HRB HBI hil hin
          go_wp2_with fail
          refine (oExt_calls b c L 200 (by decide) wr HRI.out (hT.step HXI.out)).mono ?_
          rintro e w9 hE
          obtain ⟨v16, rfl, hbl, hB9⟩ := ext_all hE HAL.out
          have HX9 : Hid (Below w.heap.size w w9) := below_step HXI.out HXI.out.size hB9
          have HR9 := hid_of (HRI.out.below hB9)
          have HN9 := hid_of (HN2.out.step hB9)
          have HBL := hid_of hbl
          clear hE hbl hB9 HN2 HRI HXI
          go_wp2_with fail
          refine (oSort_calls b c L w9 HR9.out (hT.step HX9.out)).mono ?_
          rintro e w10 ⟨v18, code, rfl, hS, hB10⟩
          have HX10 : Hid (Below w.heap.size w w10) := below_step HX9.out HX9.out.size hB10
          have HR10 := hid_of (HR9.out.below hB10)
          have HN10 := hid_of (HN9.out.step hB10)
          have hls := lists2_same v16 (.slice na us.length ncap) (allO L) w10 (HBL.out.below hB10) HN10.out.blocks (by have := HAL.out; omega) (fun bl hbl => by have := HA5.out bl hbl; omega)
          have HLS := hid_of hls
          obtain ⟨p16, c16, e16, _⟩ := HBL.out
          subst e16
          have HS := hid_of hS
          clear hls hS hB10 HN9 HR9 HX9 HBL
          go_upto_region 31 with fail
          go_cut [141] (fun t wx => t = .bool false ∧ Hid (Below w10.heap.size w10 wx))
          case first =>
            by_cases hs : (sortOf L).length = L.length
            · obtain ⟨rfl, ho⟩ := HS.out.1 hs
              obtain ⟨r, hr⟩ := allO_first hs
              obtain ⟨x18, y18, z18, rfl⟩ := owns_slice ho
              obtain ⟨s, xa, xc, e1, hpos, hlk⟩ := HN10.out.look (i := 0) (l := sortOf L) (by rw [hr]; rfl)
              subst e1
              have HLK := hid_of hlk
              have HO2 : Hid (IntsR w10 (.slice x18 y18 z18) (toI (sortOf L))) := owns_intsR (base := w9.heap.size) (by rw [toI_length, hs, ← encN_toJ]; exact ho)
              have P1 : (0 : Int) < ((us.length : Nat) : Int) := by omega
              have hsl : (sortOf L).length ≤ 5 := HA5.out _ (by rw [hr]; simp)
              clear hlk ho hs hr
              go_wp2_with (first | (go_at_call 13; refine HLS.out.mono ?_; rintro e w11 ⟨rfl, hB11⟩; have c0 := (HLK.out w11 hB11).1) | (go_at_call 20; refine (ints2_calls (.slice x18 y18 z18) _ (toI (sortOf L)) (toI (sortOf L)) w11 (HO2.out.below hB11) (owns_intsR (HLK.out w11 hB11).2) (by rw [toI_length]; omega)).mono ?_; rw [beq_self_eq_true]; rintro e w12 ⟨rfl, hB12⟩))
              go_meet
              exact ⟨rfl, below_step hB11 hB11.size hB12⟩
            · obtain ⟨rfl, rfl⟩ := HS.out.2 hs
              have h0 : us.length = 0 := by rw [HU.out, allO, if_neg hs]; rfl
              have hus : us = [] := List.length_eq_zero_iff.1 h0
              subst hus
              clear hs h0
              go_wp2_with (go_at_call 13; refine HLS.out.mono ?_; rintro e w11 ⟨rfl, hB11⟩)
              go_meet
              exact ⟨rfl, hB11⟩
          case rest =>
            obtain ⟨rfl, HB11⟩ := hcut
            have HX11 : Hid (Below w.heap.size w wc) := below_step HX10.out HX10.out.size HB11.out
            have HR11 := hid_of (HR10.out.below HB11.out)
            obtain ⟨p2, cap2, e2, hpf, hpl⟩ := parg_form (a2.below HX11.out)
            have hG := oGlue_calls b c L v2 l2 wc HR11.out (hT.step HX11.out) ⟨p2, cap2, e2, hpf⟩ hpl
            obtain ⟨rl, rc, hrr⟩ : ∃ rl rc, glueF L l2 = (rl, rc) := ⟨_, _, rfl⟩
            rw [hrr] at hG
            have HG := hid_of hG
            have HRR := hid_of hrr
            clear hG hrr e2 hpf hpl HLS HS
            go_wp2_with fail
            refine HG.out.mono ?_
            rintro e w13 ⟨⟨v20, rfl, ho, hno⟩, hB13⟩
            dsimp only at ho hno
            have HX13 : Hid (Below w.heap.size w w13) := below_step HX11.out HX11.out.size hB13
            have HR13 := hid_of (HR11.out.below hB13)
            clear HG hB13
            dsimp only
            by_cases hc1 : rc = 1
            · subst hc1
              obtain rfl := hno (by decide)
              clear ho hno
              go_wp2_with fail
              go_ret
              exact ⟨rfl, HX13.out⟩
            · by_cases hc0 : rc = 0
              · subst hc0
                have hown := ho rfl
                obtain ⟨xg, yg, zg, rfl⟩ := owns_slice hown
                have hgl : linB L (toI rl) = true := by
                  have := glue_lin (L := L) (l := l2) (by rw [HRR.out])
                  rw [HRR.out] at this
                  exact this
                have hgt : Tog (toI rl) l2 := by
                  have := glue_tog (L := L) (l := l2) (by rw [HRR.out])
                  rw [HRR.out] at this
                  exact this
                have hlp := lin_prm hgl
                have hin : rl ∈ allO L := by
                  rw [← HAL2.out]
                  exact List.mem_filter.2 ⟨mem_prm _ _ _ hlp, hgl⟩
                obtain rfl : q = true := HQ2.out.2 ⟨rl, hin, hgt⟩
                have HI13 : Hid (IntsR w13 (.slice xg yg zg) (toI rl)) := owns_intsR (base := wc.heap.size) (by rw [toI_length, ← encN_toJ]; exact hown)
                have hlc := oLinear_calls b c L (.slice xg yg zg) (toI rl) w13 HR13.out (hT.step HX13.out) HI13.out
                rw [hgl] at hlc
                have HLC := hid_of hlc
                have HGT := hid_of hgt
                have hr5 : rl.length ≤ 5 := by rw [hlp.len]; exact hm5
                clear ho hno hown hgl hgt hlp hin hlc
                go_wp2_with fail
                refine HLC.out.mono ?_
                rintro e w14 ⟨rfl, hB14⟩
                have HX14 : Hid (Below w.heap.size w w14) := below_step HX13.out HX13.out.size hB14
                go_wp2_with fail
                refine (together_calls (.slice xg yg zg) v2 (toI rl) l2 w14 (HI13.out.below hB14) (a2.below HX14.out) (by rw [toI_length]; omega) HGT.out).mono ?_
                rintro e w15 ⟨rfl, hB15⟩
                go_wp2_with fail
                go_ret
                exact ⟨rfl, below_step HX14.out HX14.out.size hB15⟩
              · obtain rfl : q = false := by
                  rw [Bool.eq_false_iff]
                  intro hq
                  obtain ⟨o, ho, ht⟩ := HQ2.out.1 hq
                  rw [← HAL2.out] at ho
                  obtain ⟨ho1, ho2⟩ := List.mem_filter.1 ho
                  have := glue_all (by omega) HLo.out (prm_ok _ _ o ho1) ho2 ht (by rw [HRR.out]; exact hc1)
                  rw [HRR.out] at this
                  exact hc0 this
                have q1 : ((rc : Int) == 0) = false := by rw [beq_eq_false_iff_ne]; exact hc0
                have q2 : ((rc : Int) == 1) = false := by rw [beq_eq_false_iff_ne]; exact hc1
                have q3 : ((rc : Int) != 0) = true := by simp [hc0]
                clear ho hno
                go_wp2_with fail
                go_ret
                exact ⟨rfl, HX13.out⟩
end Go.Proofs.YtmmgdeoballhpaaDoor
