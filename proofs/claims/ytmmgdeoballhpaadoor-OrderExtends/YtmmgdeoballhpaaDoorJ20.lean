/- The contract of the reference's more, walked. -/
import Derived.Test.YtmmgdeoballhpaaDoorJ19
import Derived.Deep.LoopGhost
import Derived.WalkMore
import Derived.Test.YtmmgdeoballhpaaDoorJ18
import Derived.Deep.RegionHeld3
import Derived.Test.YtmmgdeoballhpaaDoorJ15
import Derived.Test.YtmmgdeoballhpaaDoorJ13
namespace Go.Proofs.YtmmgdeoballhpaaDoor
open Go.RowKit Go.Shelf Sx

/-- What more answers. -/
def MoreR (w w' : World) (E : List (List Nat)) (m : Nat) (e : Ending) : Prop :=
  ∃ v vs q os, e = .returned (.tuple #[v, .bool q]) ∧ MoreA E m os q ∧ RdL w' w.heap.size v vs (os.map toI) ∧ Below w.heap.size w w'
/-- A list of our own, read at a place. -/
theorem ownJ_at {W : World} {base : Nat} {a : Option Addr} {cap : Nat} {l : List Nat} (h : W.ownsRow base 3 1 (.slice a l.length cap) l.length (encJ (toI l))) {k : Nat} (hk : k < l.length) : ∃ s, a = some ⟨s, 0, none⟩ ∧ W.cell? ⟨s, k, none⟩ = some (.int .i64 ((l.getD k 0 : Nat) : Int)) := by
  obtain ⟨s, cap', e1, _, h2⟩ := owns_cells h (by simp [encJ, toI]) (by omega)
  injection e1 with e1 _ _
  refine ⟨s, e1, h2 k _ ?_⟩
  simp [encJ, toI, List.getD_eq_getElem?_getD, List.getElem?_eq_getElem hk]
set_option maxRecDepth 100000 in
set_option maxHeartbeats 16000000 in
theorem r2more_leaf (x : Option Addr) (y z : Nat) (n : Nat) (hn : n ≤ 256) (pts : List Nat) (m : Nat) (hm : m ≤ 1000) (dv : Value) (a : Option Addr) (cap : Nat) (w : World) (hI : w.ownsRow 0 3 1 (.slice a pts.length cap) pts.length (encJ (toI pts))) (hl : pts.length = n) :
    Calls Tryd.prog 54 #[.agg #[.int .i64 ((n : Nat) : Int), .slice x y z], dv, .slice a pts.length cap, .int .i64 ((m : Nat) : Int)] w fun e w' => MoreR w w' [pts] m e := by
  obtain ⟨i0, hi, hz0, hz1, hz2⟩ := info_parts Tryd.infoint
  have hb := Blk.new w 46 #[.int .i64 ((n : Nat) : Int), .slice x y z]
  have hBA := (Below.refl w.heap.size w).alloc (Nat.le_refl _) (.cells #[.int .i64 ((n : Nat) : Int), .slice x y z] 46)
  have b0 := hb.cell (j := 0) rfl
  have HI := hid_of hI
  clear hI
  have q1 : (((pts.length : Nat) : Int) == ((n : Nat) : Int)) = true := by rw [hl]; simp
  have HL := hid_of hl
  clear hl
  by_cases hm1 : m < 1
  · have hm2 : ((m : Nat) : Int) < 1 := by omega
    go_enter Tryd.func54, Tryd.ntmps54
    go_wp2_with fail
    go_ret2
    exact ⟨_, [], _, [], rfl, MoreA.leaf0 hm1, RdL.nil _ _, hBA⟩
  · have hm2 : ¬ ((m : Nat) : Int) < 1 := by omega
    have hz : (w.alloc (.cells #[.int .i64 ((n : Nat) : Int), .slice x y z] 46)).heap.size = w.heap.size + 1 := by simp
    have HBA := hid_of hBA
    clear hBA hb
    go_enter Tryd.func54, Tryd.ntmps54
    go_wp2_with fail
    generalize w.alloc (.cells #[.int .i64 ((n : Nat) : Int), .slice x y z] 46) = w0 at *
    clear b0
    go_loopg [10, 11] pts.length (fun f ov i wr => ∃ k : Nat, i = .int .i64 ((k : Nat) : Int) ∧ k ≤ pts.length ∧ Hid (k + f = pts.length) ∧ Hid (wr.ownsRow w0.heap.size 3 1 ov k (encJ (toI (pts.take k)))) ∧ Hid (Below w0.heap.size w0 wr))
    case atStart => exact ⟨0, rfl, Nat.zero_le _, Nat.zero_add _, World.ownsRow_nil _ _ _ _, Below.refl _ _⟩
    case round =>
      obtain ⟨k, rfl, hk, HKF, HO, HB⟩ := hrel
      have hWl := HB.out.size
      have HBW : Hid (Below w.heap.size w wr) := HBA.out.trans (HB.out.mono (by omega))
      obtain ⟨oa, ocap, rfl⟩ := owns_len HO.out
      have hpl : pts.length ≤ 256 := by have := HL.out; omega
      by_cases hlt : k < pts.length
      · have K0 : (0 : Int) ≤ ((k : Nat) : Int) := by omega
        have K1 : ((k : Nat) : Int) < ((pts.length : Nat) : Int) := by omega
        obtain ⟨s, rfl, hc⟩ := ownJ_at (owns_below' HI.out HBW.out) hlt
        have HE := hid_of (take_enc pts hlt)
        generalize pts.getD k 0 = pk at *
        go_wp2_with (at_builtin; refine wpList_append_own_at _ rfl _ _ 29 rfl w0.heap.size 3 i0 (.int .i64 0) 1 8 Tryd.underlying29 hi hz0 hz1 hz2 rfl (by decide) (.slice oa k ocap) k (encJ (toI (pts.take k))) rfl (HO.out.alloc _) ⟨_, 0, none⟩ 1 1 [.int .i64 ((pk : Nat) : Int)] rfl rfl (news_int wr pk) (by simp [Value.oneCell']) (by unfold maxLen; omega) (by omega) (by simp; omega) ?_; intro v2 w5 hown' hgrow _ _)
        have hb5 : Below w0.heap.size w0 w5 := (HB.out.alloc HB.out.size _).grown hgrow (by simp; omega) (fun q e => (HO.out.lt q e).1)
        rw [HE.out] at hown'
        go_roundg (pts.length - (k + 1))
        case measure => have := HKF.out; omega
        case rel => exact ⟨k + 1, by go_num, by omega, by have := HKF.out; rw [Hid]; omega, hown', hb5⟩
      · obtain rfl : k = pts.length := by omega
        go_wp2_with fail
        go_ret2
        have ho := HO.out
        rw [List.take_length] at ho
        refine ⟨_, _, _, [pts], rfl, MoreA.leaf1 hm1, RdL.one (l := toI pts) HBW.out.size ?_, HBW.out.alloc HBW.out.size _⟩
        rw [toI_length]
        exact owns_lo ho (Nat.zero_le _)
end Go.Proofs.YtmmgdeoballhpaaDoor
/- The contract of the reference's more: a point more. -/
namespace Go.Proofs.YtmmgdeoballhpaaDoor
open Go.RowKit Go.Shelf Sx

theorem encN_snocI (l : List Nat) (x : Nat) : encJ (toI l) ++ [.int .i64 ((x : Nat) : Int)] = encJ (toI (l ++ [x])) := by simp [encJ, toI]
set_option maxRecDepth 100000 in
set_option maxHeartbeats 16000000 in
theorem r2more_step (lo : Nat) (x : Option Addr) (y z : Nat) (rb : Nat → Nat) (F : Nat → Nat → Bool) (L : List Nat) (hn : L.length ≤ 256) (hT : TwO L.length F L) (hlow : ∀ R ∈ L, R < 2 ^ L.length) (f : Nat)
    (IH : ∀ (pts : List Nat) (m g : Nat) (a : Option Addr) (cap : Nat) (w : World), pts.length + f = L.length → m ≤ 1000 → RefM lo w (.slice x y z) L.length L.length rb F → Blk w g 4 (arrB (doneL L.length pts)) → w.ownsRow 0 3 1 (.slice a pts.length cap) pts.length (encJ (toI pts)) →
      Calls Tryd.prog 54 #[.agg #[.int .i64 ((L.length : Nat) : Int), .slice x y z], .slice (some ⟨g, 0, none⟩) L.length L.length, .slice a pts.length cap, .int .i64 ((m : Nat) : Int)] w fun e w' => MoreR w w' (exts L.length (pairsL L) f pts) m e)
    (pts : List Nat) (m g : Nat) (a : Option Addr) (cap : Nat) (w : World) (hl : pts.length + (f + 1) = L.length) (hm : m ≤ 1000) (hR : RefM lo w (.slice x y z) L.length L.length rb F) (hD : Blk w g 4 (arrB (doneL L.length pts))) (hI : w.ownsRow 0 3 1 (.slice a pts.length cap) pts.length (encJ (toI pts))) :
    Calls Tryd.prog 54 #[.agg #[.int .i64 ((L.length : Nat) : Int), .slice x y z], .slice (some ⟨g, 0, none⟩) L.length L.length, .slice a pts.length cap, .int .i64 ((m : Nat) : Int)] w fun e w' => MoreR w w' (exts L.length (pairsL L) (f + 1) pts) m e := by
  obtain ⟨i0, hi, hz0, hz1, hz2⟩ := info_parts Tryd.infoint
  obtain ⟨i1, hj, hy0, hy1, hy2⟩ := info_parts Tryd.infoints
  have HF := fun p hp => free_iff hT hn hlow pts (p := p) hp
  have HFR := hid_of HF
  clear HF
  have HIH := hid_of IH
  have HR := hid_of hR
  have HD := hid_of hD
  have HI := hid_of hI
  clear IH hR hD hI hT hlow
  have q1 : (((pts.length : Nat) : Int) == ((L.length : Nat) : Int)) = false := by rw [beq_eq_false_iff_ne]; omega
  have hpl : pts.length < L.length := by omega
  have HL := hid_of hl
  clear hl
  generalize hLn : L.length = n at *
  generalize hps : pairsL L = ps at *
  have HLN := hid_of hLn
  clear hLn hps
  have hb := Blk.new w 46 #[.int .i64 ((n : Nat) : Int), .slice x y z]
  have hBA := (Below.refl w.heap.size w).alloc (Nat.le_refl _) (.cells #[.int .i64 ((n : Nat) : Int), .slice x y z] 46)
  have b0 := hb.cell (j := 0) rfl
  have hz : (w.alloc (.cells #[.int .i64 ((n : Nat) : Int), .slice x y z] 46)).heap.size = w.heap.size + 1 := by simp
  have hmb := fun W => make_bools n (by omega) W
  have HBA := hid_of hBA
  have HBX := hid_of hb
  clear hBA hb
  go_enter Tryd.func54, Tryd.ntmps54
  go_wp2_with fail
  generalize w.alloc (.cells #[.int .i64 ((n : Nat) : Int), .slice x y z] 46) = w0 at *
  clear b0
  go_loopg [12, 13] n (fun gk ov i wr => ∃ (k : Nat) (vs : List Value), i = .int .i64 ((k : Nat) : Int) ∧ k ≤ n ∧ Hid (k + gk = n) ∧ Hid (RdL wr w0.heap.size ov vs ((extK n ps f pts k).map toI)) ∧ Hid ((extK n ps f pts k).length ≤ m) ∧ Hid (Below w0.heap.size w0 wr))
  case atStart => exact ⟨0, [], rfl, Nat.zero_le _, Nat.zero_add _, RdL.nil _ _, Nat.zero_le _, Below.refl _ _⟩
  case round =>
    obtain ⟨k, vs, rfl, hk, HKF, HO, HLE, HB⟩ := hrel
    have hWl := HB.out.size
    have HBW : Hid (Below w.heap.size w wr) := HBA.out.trans (HB.out.mono (by omega))
    have hbx := HBX.out.of_below HB.out
    have b0 := hbx.cell (j := 0) rfl
    have b1 := hbx.cell (j := 1) rfl
    have hvl : vs.length = (extK n ps f pts k).length := by have := HO.out.len; simpa using this
    have hvm : vs.length ≤ m := by rw [hvl]; exact HLE.out
    have HVL := hid_of hvl
    clear hbx hvl
    obtain ⟨oa, ocap, rfl⟩ := owns_len HO.out.own
    by_cases hlt : k < n
    · have K0 : (0 : Int) ≤ ((k : Nat) : Int) := by omega
      have K1 : ((k : Nat) : Int) < ((n : Nat) : Int) := by omega
      have hf := r2free_calls lo n hn x y z rb F (doneL n pts) g k wr (HR.out.below HBW.out) (HD.out.of_below HBW.out) (doneL_length _ _) hlt
      have hfi := HFR.out k hlt
      cases hfr : freeF n F (doneL n pts) k
      · rw [hfr] at hf hfi
        have hw : ¬ wAt ps pts k = 0 := fun e => by have := hfi.2 e; cases this
        have HEK := hid_of (extK_no (n := n) (f := f) hw)
        clear hfi hfr hw
        go_wp2_with fail
        refine hf.mono ?_
        rintro e w1 ⟨rfl, hB1⟩
        clear hf
        go_wp2_with fail
        go_roundg (n - (k + 1))
        case measure => have := HKF.out; omega
        case rel =>
          refine ⟨k + 1, vs, by go_num, by omega, by have := HKF.out; rw [Hid]; omega, ?_, ?_, below_step HB.out HB.out.size hB1⟩
          · rw [Hid, HEK.out]; exact HO.out.step hB1
          · rw [Hid, HEK.out]; exact HLE.out
      · rw [hfr] at hf hfi
        have hw : wAt ps pts k = 0 := hfi.1 rfl
        have HW := hid_of hw
        clear hfi hfr hw
        go_wp2_with fail
        refine hf.mono ?_
        rintro e w1 ⟨rfl, hB1⟩
        clear hf b0 b1
        have HB1 : Hid (Below w0.heap.size w0 w1) := below_step HB.out HB.out.size hB1
        have HO1 := hid_of (HO.out.step hB1)
        have hbx := HBX.out.of_below HB1.out
        have b0 := hbx.cell (j := 0) rfl
        have hW1 := HB1.out.size
        clear hbx hB1 HO HB HBW
        go_wp2_with fail
        have hdb := Blk.new w1 4 (arrB (List.replicate n false))
        have hB2 := (Below.refl w1.heap.size w1).alloc (Nat.le_refl _) (.cells (arrB (List.replicate n false)) 4)
        rw [← dmK_zero n pts k] at hdb hB2 ⊢
        have HDB := hid_of hdb
        have HB2 := hid_of hB2
        have hzw2 : (w1.alloc (.cells (arrB (dmK n pts k 0)) 4)).heap.size = w1.heap.size + 1 := by simp
        clear hdb hB2 b0
        generalize w1.alloc (.cells (arrB (dmK n pts k 0)) 4) = w2 at *
        go_loopg [15] n (fun gk i wq => ∃ j : Nat, i = .int .i64 ((j : Nat) : Int) ∧ j ≤ n ∧ Hid (j + gk = n) ∧ Hid (Blk wq w1.heap.size 4 (arrB (dmK n pts k j))) ∧ Hid (Below w1.heap.size w1 wq))
        case atStart => exact ⟨0, rfl, Nat.zero_le _, Nat.zero_add _, HDB.out, HB2.out⟩
        case round =>
          clear HDB HB2
          obtain ⟨j, rfl, hjn, HJF, HDJ, HBJ⟩ := hrel
          have hbx := HBX.out.of_below (below_step HB1.out HB1.out.size HBJ.out)
          have b0 := hbx.cell (j := 0) rfl
          by_cases hlj : j < n
          · have J0 : (0 : Int) ≤ ((j : Nat) : Int) := by omega
            have J1 : ((j : Nat) : Int) < ((n : Nat) : Int) := by omega
            have d0 := arrB_cell (HD.out.of_below (HBA.out.trans ((below_step HB1.out HB1.out.size HBJ.out).mono (by omega)))) (i := j) (by rw [doneL_length]; exact hlj)
            rw [doneL_at _ hlj] at d0
            have e0 := arrB_cell HDJ.out (i := j) (by rw [dmK_length]; exact hlj)
            have ef := HDJ.out.frozen j
            have HS : Hid (∀ b, b = (pts ++ [k]).contains j → Blk (wr.setCell ⟨w1.heap.size, j, none⟩ (.bool b)) w1.heap.size 4 (arrB (dmK n pts k (j + 1)))) := fun b hb => by
              have := HDJ.out.set j (.bool b)
              rw [arrB_set, dmK_set pts k hb] at this
              exact this
            have HOR : Hid ((pts ++ [k]).contains j = (pts.contains j || (j == k))) := done_or
            generalize (dmK n pts k j).getD j false = ev at *
            cases hdj : pts.contains j
            · rw [hdj] at d0 HOR
              by_cases hjk : j = k
              · have q2 : (((j : Nat) : Int) == ((k : Nat) : Int)) = true := by rw [hjk]; simp
                have HS2 := hid_of (HS.out true (by rw [HOR.out, hjk]; simp))
                clear hdj hjk HS HOR
                go_wp2_with fail
                go_roundg (n - (j + 1))
                case measure => have := HJF.out; omega
                case rel => exact ⟨j + 1, by go_num, by omega, by have := HJF.out; rw [Hid]; omega, HS2.out, HBJ.out.setCell (by simp) _⟩
              · have q2 : (((j : Nat) : Int) == ((k : Nat) : Int)) = false := by rw [beq_eq_false_iff_ne]; omega
                have HS2 := hid_of (HS.out false (by rw [HOR.out]; simp [hjk]))
                clear hdj hjk HS HOR
                go_wp2_with fail
                go_roundg (n - (j + 1))
                case measure => have := HJF.out; omega
                case rel => exact ⟨j + 1, by go_num, by omega, by have := HJF.out; rw [Hid]; omega, HS2.out, HBJ.out.setCell (by simp) _⟩
            · rw [hdj] at d0 HOR
              have HS2 := hid_of (HS.out true (by rw [HOR.out]; simp))
              clear hdj HS HOR
              go_wp2_with fail
              go_roundg (n - (j + 1))
              case measure => have := HJF.out; omega
              case rel => exact ⟨j + 1, by go_num, by omega, by have := HJF.out; rw [Hid]; omega, HS2.out, HBJ.out.setCell (by simp) _⟩
          · obtain rfl : n = j := by omega
            have hdd := HDJ.out
            rw [dmK_all] at hdd
            have HDD := hid_of hdd
            have HB3 := HBJ
            clear hdd HDJ HJF hbx HBJ
            go_wp2_with fail
            clear b0
            have hz3 : w1.heap.size < wr.heap.size := HDD.out.lt
            generalize hw3 : wr = w3 at *
            clear hw3
            go_loopg [16, 17] pts.length (fun gk lv i wq => ∃ t : Nat, i = .int .i64 ((t : Nat) : Int) ∧ t ≤ pts.length ∧ Hid (t + gk = pts.length) ∧ Hid (wq.ownsRow w3.heap.size 3 1 lv t (encJ (toI (pts.take t)))) ∧ Hid (Below w3.heap.size w3 wq))
            case atStart => exact ⟨0, rfl, Nat.zero_le _, Nat.zero_add _, World.ownsRow_nil _ _ _ _, Below.refl _ _⟩
            case round =>
              obtain ⟨t, rfl, htn, HTF, HLO, HBT⟩ := hrel
              have hWt := HBT.out.size
              obtain ⟨la, lcap, rfl⟩ := owns_len HLO.out
              have HB04 : Hid (Below w1.heap.size w1 wr) := below_step HB3.out HB3.out.size HBT.out
              have HBW : Hid (Below w.heap.size w wr) := HBA.out.trans ((below_step HB1.out HB1.out.size HB04.out).mono (by omega))
              by_cases hlp : t < pts.length
              · have T0 : (0 : Int) ≤ ((t : Nat) : Int) := by omega
                have T1 : ((t : Nat) : Int) < ((pts.length : Nat) : Int) := by omega
                obtain ⟨s, rfl, hc⟩ := ownJ_at (owns_below' HI.out HBW.out) hlp
                have HE := hid_of (take_enc pts hlp)
                generalize pts.getD t 0 = pk at *
                go_wp2_with (at_builtin; refine wpList_append_own_at _ rfl _ _ 29 rfl w3.heap.size 3 i0 (.int .i64 0) 1 8 Tryd.underlying29 hi hz0 hz1 hz2 rfl (by decide) (.slice la t lcap) t (encJ (toI (pts.take t))) rfl (HLO.out.alloc _) ⟨_, 0, none⟩ 1 1 [.int .i64 ((pk : Nat) : Int)] rfl rfl (news_int wr pk) (by simp [Value.oneCell']) (by unfold maxLen; omega) (by omega) (by simp; omega) ?_; intro v2 w5 hown' hgrow _ _)
                have hb5 : Below w3.heap.size w3 w5 := (HBT.out.alloc HBT.out.size _).grown hgrow (by simp; omega) (fun q e => (HLO.out.lt q e).1)
                rw [HE.out] at hown'
                go_roundg (pts.length - (t + 1))
                case measure => have := HTF.out; omega
                case rel => exact ⟨t + 1, by go_num, by omega, by have := HTF.out; rw [Hid]; omega, hown', hb5⟩
              · obtain rfl : t = pts.length := by omega
                have hlo := HLO.out
                rw [List.take_length] at hlo
                have HLP := hid_of hlo
                have hbx := HBX.out.of_below (below_step HB1.out HB1.out.size HB04.out)
                have HBB : Hid (Below w0.heap.size w0 wr) := below_step HB1.out HB1.out.size HB04.out
                have hlw : w0.heap.size ≤ w1.heap.size := HB1.out.size
                clear hlo HLO hbx
                go_wp2_with (at_builtin; refine wpList_append_own_at _ rfl _ _ 29 rfl w3.heap.size 3 i0 (.int .i64 0) 1 8 Tryd.underlying29 hi hz0 hz1 hz2 rfl (by decide) (.slice la pts.length lcap) pts.length (encJ (toI pts)) rfl (HLP.out.alloc _) ⟨_, 0, none⟩ 1 1 [.int .i64 ((k : Nat) : Int)] rfl rfl (news_int wr k) (by simp [Value.oneCell']) (by unfold maxLen; omega) (by omega) (by simp; omega) ?_; intro v2 w5 hown' hgrow _ _; have hb5 : Below w3.heap.size w3 w5 := (HBT.out.alloc HBT.out.size _).grown hgrow (by simp; omega) (fun q e => (HLP.out.lt q e).1); have hbx5 := HBX.out.of_below (below_step HB1.out HB1.out.size (below_step HB3.out HB3.out.size hb5)); have b0 := hbx5.cell (j := 0) rfl; have b1 := hbx5.cell (j := 1) rfl; obtain ⟨la2, lcap2, rfl⟩ := owns_len hown')
                have HB15 : Hid (Below w1.heap.size w1 w5) := below_step HB3.out HB3.out.size hb5
                have HB05 : Hid (Below w0.heap.size w0 w5) := below_step HB1.out HB1.out.size HB15.out
                have hc := HIH.out (pts ++ [k]) (m - vs.length) w1.heap.size la2 lcap2 w5 (by have := HL.out; simp; omega) (by omega) (HR.out.below (HBA.out.trans (HB05.out.mono (by omega)))) (HDD.out.of_below hb5) (by
                  rw [List.length_append, List.length_singleton, ← encN_snocI]
                  exact owns_lo hown' (Nat.zero_le _))
                simp only [List.length_append, List.length_singleton] at hc
                rw [show (((m - vs.length : Nat)) : Int) = ((m : Nat) : Int) - ((vs.length : Nat) : Int) by omega] at hc
                refine hc.mono ?_
                rintro e w6 ⟨sv, svs, q, os, rfl, hMA, hRd, hB6⟩
                clear hc b0 b1 hbx5 HBB HB04 HBW HBT HTF HDD HB3 hown' hgrow hb5
                have HMA := hid_of hMA
                have HO6 := hid_of ((HO1.out.step HB15.out).step hB6)
                have HRD := hid_of hRd
                have HB06 : Hid (Below w0.heap.size w0 w6) := below_step HB05.out HB05.out.size hB6
                have hsl : svs.length = os.length := by have := hRd.len; simpa using this
                have hsm : vs.length + svs.length ≤ m := by
                  rw [hsl, hMA.os, List.length_take]
                  omega
                have HSL := hid_of hsl
                have HSV : Hid (∀ g, sv.ownBlock = some g → w5.heap.size ≤ g ∧ g < w6.heap.size) := fun g e => hRd.own.lt g e
                have HOV : Hid (∀ g, (Value.slice oa vs.length ocap).ownBlock = some g → g < w5.heap.size ∨ w6.heap.size ≤ g) := fun g e => .inl (Nat.lt_of_lt_of_le (HO1.out.own.lt g e).2 HB15.out.size)
                obtain ⟨sa, scap, rfl⟩ := owns_len hRd.own
                clear hMA hRd hB6 hsl HO1
                go_wp2_with fail
                go_loopg [12, 20] svs.length (fun gk ov i wq => ∃ (j : Nat) (us : List Value), i = .int .i64 ((j : Nat) : Int) ∧ j ≤ svs.length ∧ us.length = vs.length + j ∧ Hid (j + gk = svs.length) ∧ Hid (RdL wq w0.heap.size ov us ((extK n ps f pts k ++ os.take j).map toI)) ∧ Hid (RdL wq w5.heap.size (.slice sa svs.length scap) svs (os.map toI)) ∧ Hid (∀ g, ov.ownBlock = some g → g < w5.heap.size ∨ w6.heap.size ≤ g) ∧ Hid (Below w0.heap.size w0 wq) ∧ w6.heap.size ≤ wq.heap.size)
                case atStart => exact ⟨0, vs, rfl, Nat.zero_le _, rfl, Nat.zero_add _, by rw [Hid, List.take_zero, List.append_nil]; exact HO6.out, HRD.out, HOV.out, HB06.out, Nat.le_refl _⟩
                case round =>
                  clear HO6 HRD HOV HB06
                  obtain ⟨j, us, rfl, hjn, hul, HJF, HU, HS, HOV, HBJ, hz6⟩ := hrel
                  obtain ⟨ua, ucap, rfl⟩ := owns_len HU.out.own
                  have hzj := HBJ.out.size
                  by_cases hlj : j < svs.length
                  · have J0 : (0 : Int) ≤ ((j : Nat) : Int) := by omega
                    have J1 : ((j : Nat) : Int) < ((svs.length : Nat) : Int) := by omega
                    obtain ⟨xj, hxj⟩ : ∃ xj, svs[j]? = some xj := ⟨_, List.getElem?_eq_getElem hlj⟩
                    obtain ⟨ol, hol⟩ : ∃ ol, os[j]? = some ol := ⟨_, List.getElem?_eq_getElem (by rw [← HSL.out]; exact hlj)⟩
                    have hrow := HS.out.row j xj (toI ol) hxj (by rw [List.getElem?_map, hol]; rfl)
                    obtain ⟨ex, ey, ez, rfl⟩ := owns_slice hrow
                    obtain ⟨s, cp, e1, _, hcs⟩ := owns_cells HS.out.own rfl (by omega)
                    injection e1 with e1 _ e3
                    subst e1
                    subst e3
                    have hc := hcs j _ hxj
                    have HROW := hid_of hrow
                    have HTK : Hid ((extK n ps f pts k ++ os.take j).map toI ++ [toI ol] = (extK n ps f pts k ++ os.take (j + 1)).map toI) := by
                      have hjl : j < os.length := (List.getElem?_eq_some_iff.1 hol).1
                      rw [Hid, List.take_succ_eq_append_getElem hjl, ← List.append_assoc, List.map_append (l₂ := [os[j]])]
                      rw [List.getElem?_eq_getElem hjl] at hol
                      injection hol with hol
                      rw [hol]
                      rfl
                    have hnw := cell_one_new wr (.slice ex ey ez) 29
                    have HNW := hid_of hnw
                    clear hnw hcs hxj hol hrow
                    go_wp2_with (at_builtin; refine wpList_append_own_at _ rfl _ _ 25 rfl w0.heap.size 29 i1 (.slice none 0 0) 1 24 Tryd.underlying25 hj hy0 hy1 hy2 rfl (by decide) (.slice ua us.length ucap) us.length us rfl (HU.out.own.alloc _) ⟨_, 0, none⟩ 1 1 [.slice ex ey ez] rfl rfl HNW.out (by simp [Value.oneCell']) (by unfold maxLen; omega) (by omega) (by simp; omega) ?_; intro v7 w7 hown' hgrow _ hat)
                    have hU7 := HU.out.add HROW.out hown' hgrow
                    rw [HTK.out] at hU7
                    have hne : ∀ g, (Value.slice (some ⟨s, 0, none⟩) svs.length scap).ownBlock = some g → (Value.slice ua us.length ucap).ownBlock ≠ some g := fun g e e2 => by
                      have h1 := HSV.out g e
                      have h2 := HOV.out g e2
                      omega
                    have hS7 := HU.out.other HS.out hne hgrow
                    have hb7 : Below w0.heap.size w0 w7 := (HBJ.out.alloc HBJ.out.size _).grown hgrow (by simp; omega) (fun q e => (HU.out.own.lt q e).1)
                    have hz7 : w6.heap.size ≤ w7.heap.size := Nat.le_trans hz6 (Nat.le_trans (by simp) hgrow.size)
                    go_roundg (svs.length - (j + 1))
                    case measure => have := HJF.out; omega
                    case rel =>
                      refine ⟨j + 1, us ++ [Value.slice ex ey ez], by go_num, by omega, by simp; omega, by have := HJF.out; rw [Hid]; omega, hU7, hS7, fun g e => ?_, hb7, hz7⟩
                      rcases hat with e2 | e2
                      · rw [e2] at e; exact HOV.out g e
                      · rw [e2] at e
                        simp at e
                        omega
                  · obtain rfl : j = svs.length := by omega
                    have hU := HU.out
                    rw [HSL.out, List.take_length] at hU
                    have HU8 := hid_of hU
                    have hll := HVL.out
                    clear hU HU HS
                    cases q
                    · go_wp2_with fail
                      go_ret2
                      refine ⟨_, us, _, _, rfl, MoreA.stop hlt HW.out HLE.out ?_, HU8.out.lo (by omega), HBA.out.trans (HBJ.out.mono (by omega))⟩
                      rw [← HVL.out]
                      exact HMA.out
                    · have hgo := MoreA.go HW.out HLE.out (by rw [← HVL.out]; exact HMA.out)
                      have HGO := hid_of hgo
                      clear hgo hll
                      go_wp2_with fail
                      go_roundg (n - (k + 1))
                      case measure => have := HKF.out; omega
                      case rel =>
                        refine ⟨k + 1, us, by go_num, by omega, by have := HKF.out; rw [Hid]; omega, ?_, HGO.out.2, HBJ.out⟩
                        rw [Hid, ← HGO.out.1]
                        exact HU8.out
    · obtain rfl : k = n := by omega
      go_wp2_with fail
      go_ret2
      exact ⟨_, vs, _, _, rfl, MoreA.done HLE.out, HO.out.lo (by omega), HBW.out⟩
theorem r2more_calls (lo : Nat) (x : Option Addr) (y z : Nat) (rb : Nat → Nat) (F : Nat → Nat → Bool) (L : List Nat) (hn : L.length ≤ 256) (hT : TwO L.length F L) (hlow : ∀ R ∈ L, R < 2 ^ L.length) : ∀ (f : Nat)
    (pts : List Nat) (m g : Nat) (a : Option Addr) (cap : Nat) (w : World), pts.length + f = L.length → m ≤ 1000 → RefM lo w (.slice x y z) L.length L.length rb F → Blk w g 4 (arrB (doneL L.length pts)) → w.ownsRow 0 3 1 (.slice a pts.length cap) pts.length (encJ (toI pts)) →
      Calls Tryd.prog 54 #[.agg #[.int .i64 ((L.length : Nat) : Int), .slice x y z], .slice (some ⟨g, 0, none⟩) L.length L.length, .slice a pts.length cap, .int .i64 ((m : Nat) : Int)] w fun e w' => MoreR w w' (exts L.length (pairsL L) f pts) m e
  | 0, pts, m, g, a, cap, w, hl, hm, _, _, hI => r2more_leaf x y z L.length hn pts m hm _ a cap w hI (by omega)
  | f + 1, pts, m, g, a, cap, w, hl, hm, hR, hD, hI => r2more_step lo x y z rb F L hn hT hlow f (r2more_calls lo x y z rb F L hn hT hlow f) pts m g a cap w hl hm hR hD hI
end Go.Proofs.YtmmgdeoballhpaaDoor
/- The contract of the reference's Extensions. -/
namespace Go.Proofs.YtmmgdeoballhpaaDoor
open Go.RowKit Go.Shelf Sx

theorem allO_none {L : List Nat} (h : ¬ (sortOf L).length = L.length) : allO L = [] := by rw [allO, if_neg h]
theorem allO_some {L : List Nat} (h : (sortOf L).length = L.length) : allO L = exts L.length (pairsL L) L.length [] := by rw [allO, if_pos h]
theorem MoreA.none (m : Nat) : MoreA [] m [] true := ⟨by simp, by simp⟩
set_option maxRecDepth 100000 in
set_option maxHeartbeats 8000000 in
theorem r2ext_calls (lo : Nat) (x : Option Addr) (y z : Nat) (rb : Nat → Nat) (F : Nat → Nat → Bool) (L : List Nat) (hn : L.length ≤ 256) (hT : TwO L.length F L) (hlow : ∀ R ∈ L, R < 2 ^ L.length) (most : Int) (hm : most ≤ 1000) (w : World) (h : RefM lo w (.slice x y z) L.length L.length rb F) :
    Calls Tryd.prog 27 #[.agg #[.int .i64 ((L.length : Nat) : Int), .slice x y z], .int .i64 most] w fun e w' => MoreR w w' (allO L) most.toNat e := by
  have hb := Blk.new w 46 #[.int .i64 ((L.length : Nat) : Int), .slice x y z]
  have hBA := (Below.refl w.heap.size w).alloc (Nat.le_refl _) (.cells #[.int .i64 ((L.length : Nat) : Int), .slice x y z] 46)
  have b0 := hb.cell (j := 0) rfl
  have b1 := hb.cell (j := 1) rfl
  have hmb := fun W => make_bools L.length (by omega) W
  have HBA := hid_of hBA
  have HBX := hid_of hb
  have HR := hid_of h
  have HT := hid_of hT
  have HLW := hid_of hlow
  clear hBA hb h hT hlow
  go_enter Tryd.func27, Tryd.ntmps27
  go_wp2_with fail
  refine (r2sort_calls lo L.length hn x y z rb F L _ (HR.out.below HBA.out) rfl HT.out HLW.out).mono ?_
  rintro e w1 ⟨v1, code, rfl, hS, hB1⟩
  have HB1 : Hid (Below w.heap.size w w1) := HBA.out.trans (hB1.mono (by simp))
  have hbx := HBX.out.of_below hB1
  have b0' := hbx.cell (j := 0) rfl
  have b1' := hbx.cell (j := 1) rfl
  clear b0 b1 hB1
  by_cases hs : (sortOf L).length = L.length
  · obtain ⟨rfl, ho⟩ := hS.1 hs
    have HAO := hid_of (allO_some hs)
    clear hS hs
    have key : ∀ (m g : Nat) (W : World), m ≤ 1000 → Below w1.heap.size w1 W → Blk W g 4 (arrB (List.replicate L.length false)) → Calls Tryd.prog 54 #[.agg #[.int .i64 ((L.length : Nat) : Int), .slice x y z], .slice (some ⟨g, 0, none⟩) L.length L.length, .slice none 0 0, .int .i64 ((m : Nat) : Int)] W fun e w' => MoreR w w' (allO L) m e ∧ Below w1.heap.size w1 w' := fun m g W hm hWA hgW => by
      have hWB : Below w.heap.size w W := below_step HB1.out HB1.out.size hWA
      refine (r2more_calls lo x y z rb F L hn HT.out HLW.out L.length [] m g none 0 W (by simp) hm (HR.out.below hWB) (by rw [doneL_nil]; exact hgW) (World.ownsRow_nil _ _ _ _)).mono ?_
      rintro e w' ⟨v, vs, q, os, rfl, h1, h2, h3⟩
      rw [HAO.out]
      exact ⟨⟨v, vs, q, os, rfl, h1, h2.lo hWB.size, below_step hWB hWB.size h3⟩, below_step hWA hWA.size h3⟩
    have HKEY := hid_of key
    clear key
    have hWA := ((Below.refl w1.heap.size w1).alloc (Nat.le_refl _) (.cells (arrB (List.replicate L.length false)) 4)).drew
    have hgW : Blk (w1.alloc (.cells (arrB (List.replicate L.length false)) 4)).drew w1.heap.size 4 (arrB (List.replicate L.length false)) := Blk.new w1 _ _
    have HWA := hid_of hWA
    have HGW := hid_of hgW
    clear hWA hgW
    by_cases hneg : most < 0
    · go_wp2_with fail
      go_region_held3 (fun w' => w'.cell? ⟨w.heap.size, 0, none⟩ = some (.int .i64 ((L.length : Nat) : Int)) ∧ w'.cell? ⟨w.heap.size, 1, none⟩ = some (.slice x y z)) (first | assumption | exact ⟨b0', b1'⟩ | exact ⟨(hbx.alloc _).cell rfl, (hbx.alloc _).cell rfl⟩) (first | (go_at_call 54; refine (HKEY.out 0 w1.heap.size _ (by omega) HWA.out HGW.out).mono ?_; rintro e w' ⟨⟨v, vs, q, os, rfl, h1, h2, h3⟩, h4⟩; have K5 : w'.cell? ⟨w.heap.size, 0, none⟩ = some (.int .i64 ((L.length : Nat) : Int)) ∧ w'.cell? ⟨w.heap.size, 1, none⟩ = some (.slice x y z) := ⟨(hbx.of_below h4).cell rfl, (hbx.of_below h4).cell rfl⟩))
      go_wp2_with fail
      go_ret2
      refine ⟨v, vs, q, os, rfl, ?_, h2, h3⟩
      rw [show most.toNat = 0 by omega]
      exact h1
    · obtain ⟨m, rfl⟩ : ∃ m : Nat, most = (m : Int) := ⟨most.toNat, by omega⟩
      go_wp2_with fail
      go_region_held3 (fun w' => w'.cell? ⟨w.heap.size, 0, none⟩ = some (.int .i64 ((L.length : Nat) : Int)) ∧ w'.cell? ⟨w.heap.size, 1, none⟩ = some (.slice x y z)) (first | assumption | exact ⟨b0', b1'⟩ | exact ⟨(hbx.alloc _).cell rfl, (hbx.alloc _).cell rfl⟩) (first | (go_at_call 54; refine (HKEY.out m w1.heap.size _ (by omega) HWA.out HGW.out).mono ?_; rintro e w' ⟨⟨v, vs, q, os, rfl, h1, h2, h3⟩, h4⟩; have K5 : w'.cell? ⟨w.heap.size, 0, none⟩ = some (.int .i64 ((L.length : Nat) : Int)) ∧ w'.cell? ⟨w.heap.size, 1, none⟩ = some (.slice x y z) := ⟨(hbx.of_below h4).cell rfl, (hbx.of_below h4).cell rfl⟩))
      go_wp2_with fail
      go_ret2
      exact ⟨v, vs, q, os, rfl, h1, h2, h3⟩
  · obtain ⟨rfl, rfl⟩ := hS.2 hs
    have HNO := hid_of (allO_none hs)
    clear hS hs
    go_wp2_with fail
    go_ret2
    rw [HNO.out]
    exact ⟨_, [], _, [], rfl, MoreA.none _, RdL.nil _ _, HB1.out⟩
end Go.Proofs.YtmmgdeoballhpaaDoor
/- Package order's classes. -/
namespace Go.Proofs.YtmmgdeoballhpaaDoor
open Go.RowKit Go.Shelf Sx

/-- Both ways: what the program looks up. -/
theorem has_both {L : List Nat} (hw : WF L.length L) (hn : L.length ≤ 256) {p q : Nat} (hp : p < L.length) (hq : q < L.length) : hasP (interL (plusL L) (invL (plusL L))) ((p : Nat) : Int) ((q : Nat) : Int) = bothE (cloB L) p q := by
  have h1 := wf_plus hw
  have h2 := wf_inv hn h1
  have h3 := wf_inter h1 h2
  unfold hasP
  rw [h3.len, inR_nat hp, inR_nat hq, Bool.true_and, Bool.true_and, Int.toNat_natCast, Int.toNat_natCast, Bool.eq_iff_iff]
  unfold bothE
  rw [Bool.and_eq_true]
  have := hs_inter h1 h2 p q
  rw [hs_inv hn h1] at this
  exact this
theorem cls_head {E : Nat → Nat → Bool} {k i : Nat} {l : List Int} (h : ((clsK E k).map toI)[i]? = some l) : ∃ u, (fstK E k)[i]? = some u ∧ u < k ∧ l = toI (clK E k u) ∧ l[0]? = some ((u : Nat) : Int) := by
  unfold clsK at h
  rw [List.getElem?_map, List.getElem?_map] at h
  cases hu : (fstK E k)[i]? with
  | none => rw [hu] at h; cases h
  | some u =>
    rw [hu] at h
    simp at h
    obtain ⟨tl, e⟩ := clK_head (List.mem_of_getElem? hu)
    refine ⟨u, rfl, (fstK_mem.1 (List.mem_of_getElem? hu)).1, h.symm, ?_⟩
    rw [← h, e]
    rfl
theorem cls_len (E : Nat → Nat → Bool) (k : Nat) : (clsK E k).length ≤ k := by
  unfold clsK fstK
  rw [List.length_map]
  have := List.length_filter_le (fun p => leastE E p == p) (List.range k)
  rw [List.length_range] at this
  exact this
theorem cl_len (E : Nat → Nat → Bool) (k u : Nat) : (clK E k u).length ≤ k := by
  unfold clK
  have := List.length_filter_le (fun p => leastE E p == u) (List.range k)
  rw [List.length_range] at this
  exact this
set_option maxRecDepth 100000 in
set_option maxHeartbeats 8000000 in
theorem oClasses_calls (b c : Nat) (L : List Nat) (w : World) (h : IsRel w b c L) (hT : Tab w) (E : Nat → Nat → Bool) (HE : Hid (E = bothE (cloB L))) (HV : Hid (Eqv L.length E)) :
    Calls Tryd.prog 40 #[pv b] w fun e w' => ∃ v vs, e = .returned v ∧ ClR w' w.heap.size v vs ((clsK E L.length).map toI) ∧ Below w.heap.size w w' := by
  have hl := h.len
  obtain ⟨i0, hi, hz0, hz1, hz2⟩ := info_parts Tryd.infoint
  obtain ⟨i1, hJ, hy0, hy1, hy2⟩ := info_parts Tryd.infoints
  have HB : Hid (∀ p q : Nat, p < L.length → q < L.length → hasP (interL (plusL L) (invL (plusL L))) ((p : Nat) : Int) ((q : Nat) : Int) = E p q) := fun p q hp hq => by
    rw [HE.out]
    exact has_both (h.wf rfl) hl hp hq
  clear HE
  go_enter Tryd.func40, Tryd.ntmps40
  go_wp2_with fail
  go_step3
  go_wp2_with fail
  refine (Plus_calls b c L _ h).mono ?_
  rintro e w1 ⟨b1, c1, rfl, hM1⟩
  go_wp2_with fail
  refine (Inverse_calls b1 c1 (plusL L) _ hM1.rel (hT.step hM1.below)).mono ?_
  rintro e w2 ⟨b2, c2, rfl, hM2⟩
  have hM12 := hM1.step hM2.below
  go_wp2_with fail
  refine (Inter_calls b1 c1 b2 c2 (plusL L) (invL (plusL L)) _ hM12.rel hM2.rel).mono ?_
  rintro e w3 ⟨b3, c3, rfl, hM3⟩
  have hB3 : Below w.heap.size w w3 := below_step hM12.below hM12.below.size hM3.below
  have hR3 := h.below hB3
  have hI3 := hM3.rel
  clear hM1 hM2 hM12 hM3
  generalize interL (plusL L) (invL (plusL L)) = M at *
  go_wp2_with fail
  go_step3
  go_wp2_with fail
  refine (Len_calls b c L _ hR3).mono ?_
  rintro e w' ⟨rfl, hw'⟩
  obtain rfl : w3 = w' := hw'.symm
  clear hR3
  go_wp2_with fail
  have hb3 := hI3.head.lt
  have hc3 := hI3.rows.lt
  go_loopg [5, 17] L.length (fun f v5 i wr => ∃ (k : Nat) (vs : List Value), Hid (k + f = L.length) ∧ k ≤ L.length ∧ i = .int .i64 k ∧ Hid (ClR wr w3.heap.size v5 vs ((clsK E k).map toI)) ∧ Below w3.heap.size w3 wr)
  case atStart => exact ⟨0, [], Nat.zero_add _, by omega, rfl, ClR.nil _ _, Below.refl _ _⟩
  case round =>
    obtain ⟨k, vs, HKF, hk, rfl, HC, hBl⟩ := hrel
    obtain ⟨a5, cap5, rfl⟩ := owns_len HC.out.own
    have HVL : Hid (vs.length = (clsK E k).length) := by have := HC.out.rows.len; rw [Hid]; simpa using this
    have hvk : vs.length ≤ k := by have := cls_len E k; have := HVL.out; omega
    by_cases hlt : k < L.length
    · go_wp2_with fail
      go_loopg [22] vs.length (fun f i wr2 => ∃ j : Nat, Hid (j + f = vs.length) ∧ j ≤ vs.length ∧ i = .int .i64 j ∧ Hid (ClR wr2 w3.heap.size (.slice a5 vs.length cap5) vs ((clsK E k).map toI)) ∧ Below w3.heap.size w3 wr2 ∧ Hid (∀ (j' u : Nat), j' < j → (fstK E k)[j']? = some u → E u k = false))
      case atStart => exact ⟨0, Nat.zero_add _, by omega, rfl, HC.out, hBl, fun j' u hj' => by omega⟩
      case round =>
        clear HC hBl
        obtain ⟨j, HJF, hj, rfl, HC, hBl, HN⟩ := hrel
        by_cases hjl : j < vs.length
        · obtain ⟨x, hx⟩ : ∃ x, vs[j]? = some x := ⟨_, List.getElem?_eq_getElem hjl⟩
          obtain ⟨l, hl2, ho⟩ := HC.out.rows.at_ hx
          obtain ⟨u, hu1, hu2, hu3, hu4⟩ := cls_head hl2
          obtain ⟨s, capo, e1, hs1, hs2⟩ := owns_cells HC.out.own rfl (by omega)
          injection e1 with e1 _ e3
          subst e1
          subst e3
          have c0 := hs2 j x hx
          obtain ⟨sx, ox, capx, rfl, hsx, hcx⟩ := (owns_intsR ho).some (by have := (List.getElem?_eq_some_iff.1 hu4).1; omega)
          have c1 : wr.cell? ⟨sx, ox, none⟩ = some (.int .i64 ((u : Nat) : Int)) := hcx 0 _ hu4
          have hh := Has_calls b3 c3 M ((u : Nat) : Int) ((k : Nat) : Int) wr (hI3.below' hBl hb3 hc3)
          rw [HB.out u k (by omega) hlt] at hh
          have HX := hid_of hx
          have HL2 := hid_of hl2
          have HU1 := hid_of hu1
          have HU3 := hid_of hu3
          have HO := hid_of ho
          have hll : l.length ≤ k := by rw [hu3, toI_length]; exact cl_len E k u
          have j0 : (0 : Int) ≤ ((j : Nat) : Int) := by omega
          have j1 : ((j : Nat) : Int) < ((vs.length : Nat) : Int) := by omega
          have l0 : (0 : Int) < ((l.length : Nat) : Int) := by have := (List.getElem?_eq_some_iff.1 hu4).1; omega
          clear hx hl2 hu1 hu3 ho hu4 hcx hs2
          cases hE : E u k
          · rw [hE] at hh
            have HN2 : Hid (∀ (j' u : Nat), j' < j + 1 → (fstK E k)[j']? = some u → E u k = false) := fun j' u' hj' hu' => by
              by_cases e : j' = j
              · subst e
                rw [HU1.out] at hu'
                rw [← Option.some.inj hu']
                exact hE
              · exact HN.out j' u' (by omega) hu'
            clear hE
            go_wp2_with fail
            refine hh.mono ?_
            rintro e w4 ⟨rfl, hB4⟩
            go_wp2_with fail
            go_roundg (vs.length - (j + 1))
            case measure => have := HJF.out; omega
            case rel => exact ⟨j + 1, by have := HJF.out; rw [Hid]; omega, by omega, by go_num, HC.out.step hB4, below_step hBl hBl.size hB4, HN2.out⟩
          · rw [hE] at hh
            go_wp2_with fail
            refine hh.mono ?_
            rintro e w4 ⟨rfl, hB4⟩
            have HLE := hid_of (scan_some HV.out hlt HU1.out hE HN.out)
            have HCK : Hid ((clsK E (k + 1)).map toI = ((clsK E k).map toI).set j (l ++ [((k : Nat) : Int)])) := by
              rw [Hid, cls_in HLE.out hu2 HU1.out, List.map_set]
              congr 1
              rw [HU3.out]
              simp [toI]
            have HC4 := hid_of (HC.out.step hB4)
            have hB5 := below_step hBl hBl.size hB4
            have ho4 := hid_of (owns_below' HO.out hB4)
            have z4 := hB5.size
            have hs4 : s < w4.heap.size := (HC4.out.own.lt s rfl).2
            have HCS : Hid (w4.cell? ⟨s, j, none⟩ = some (.slice (some ⟨sx, ox, none⟩) l.length capx) ∧ w4.frozen? ⟨s, j, none⟩ = false ∧ some s ≠ (Value.slice (some ⟨sx, ox, none⟩) l.length capx).ownBlock) := ⟨(hB4.cell (p := ⟨s, j, none⟩) hs1).trans c0, HC4.out.own.frozenAt j, fun e => HC4.out.ne HX.out e.symm rfl⟩
            clear hE HC HN hBl hB4 c0 c1 HO HU3 HU1 hh
            go_wp2_with (at_builtin; refine wpList_append_own_at _ rfl _ _ 29 rfl w3.heap.size 3 i0 (.int .i64 0) 1 8 Tryd.underlying29 hi hz0 hz1 hz2 rfl (by decide) (.slice (some ⟨sx, ox, none⟩) l.length capx) l.length (encJ l) rfl (ho4.out.alloc _) ⟨_, 0, none⟩ 1 1 [.int .i64 ((k : Nat) : Int)] rfl rfl (by intro k u hk; match k, hk with | 0, hk => simp at hk; subst hk; exact (Blk.new _ _ _).cell rfl) (by simp [Value.oneCell']) (by unfold maxLen; omega) (by omega) (by simp; omega) ?_; intro v' w5 hown' hgrow _ hat; obtain ⟨a6, c6, hv6⟩ := owns_len hown'; subst hv6; have cs5 := hgrow.cell (cellA' HCS.out.1 _) HCS.out.2.2; have fs5 := (World.frozen?_of_block (hgrow.block s (by simp; omega) HCS.out.2.2)).trans ((World.frozen?_of_block (Below.heap_alloc _ _ _ hs4)).trans HCS.out.2.1))
            have hC6 := HC4.out.grow HX.out hown' hgrow hat
            rw [← HCK.out] at hC6
            have hb6 : Below w3.heap.size w3 (w5.setCell ⟨s, j, none⟩ (.slice a6 (l.length + 1) c6)) := ((hB5.alloc hB5.size _).grown hgrow (by simp; omega) (fun q e => (ho4.out.lt q e).1)).setCell (by have := (HC4.out.own.lt s rfl).1; exact this) _
            go_roundg (L.length - (k + 1))
            case measure => have := HKF.out; omega
            case rel => exact ⟨k + 1, _, by have := HKF.out; rw [Hid]; omega, by omega, by go_num, hC6, hb6⟩
        · obtain rfl : j = vs.length := by omega
          have HLE : Hid (leastE E k = k) := scan_none HV.out hlt (fun i u hu => HN.out i u (by
            have h1 := (List.getElem?_eq_some_iff.1 hu).1
            have h2 := HVL.out
            unfold clsK at h2
            rw [List.length_map] at h2
            omega) hu)
          have HCK : Hid ((clsK E (k + 1)).map toI = (clsK E k).map toI ++ [[((k : Nat) : Int)]]) := by
            rw [Hid, cls_new HLE.out, List.map_append]
            rfl
          have z4 := hBl.size
          have hnw : ∀ j u, ([.slice (some ⟨wr.heap.size, 0, none⟩) 1 1] : List Value)[j]? = some u → ((wr.alloc (.cells #[.int .i64 ((k : Nat) : Int)] 3)).alloc (.cells #[.slice (some ⟨wr.heap.size, 0, none⟩) 1 1] 29)).cell? ((⟨wr.heap.size + 1, 0, none⟩ : Addr).add j) = some u := by
            have := cell_one_new (wr.alloc (.cells #[.int .i64 ((k : Nat) : Int)] 3)) (.slice (some ⟨wr.heap.size, 0, none⟩) 1 1) 29
            rw [World.size_alloc] at this
            exact this
          have HNW := hid_of hnw
          clear hnw
          go_wp2_with (at_builtin; refine wpList_append_own_at _ rfl _ _ 25 rfl w3.heap.size 29 i1 (.slice none 0 0) 1 24 Tryd.underlying25 hJ hy0 hy1 hy2 rfl (by decide) (.slice a5 vs.length cap5) vs.length vs rfl ((HC.out.own.alloc _).alloc _) ⟨_, 0, none⟩ 1 1 [.slice (some ⟨wr.heap.size, 0, none⟩) 1 1] rfl rfl HNW.out (by simp [Value.oneCell']) (by unfold maxLen; omega) (by omega) (by simp; omega) ?_; intro v' w5 hown' hgrow _ _)
          have hC6 := HC.out.push hBl.size hown' hgrow
          rw [← HCK.out] at hC6
          have hb6 : Below w3.heap.size w3 w5 := ((hBl.alloc hBl.size _).alloc (by simp; omega) _).grown hgrow (by simp; omega) (fun q e => (HC.out.own.lt q e).1)
          go_roundg (L.length - (k + 1))
          case measure => have := HKF.out; omega
          case rel => exact ⟨k + 1, _, by have := HKF.out; rw [Hid]; omega, by omega, by go_num, hC6, hb6⟩
    · obtain rfl : k = L.length := by omega
      go_wp2_with fail
      rw [Exit.noGoto_ret]
      go_ret
      exact ⟨_, vs, rfl, (HC.out.step (Below.refl _ _)).lo hB3.size, hB3.trans (hBl.mono hB3.size)⟩
end Go.Proofs.YtmmgdeoballhpaaDoor
/- Package order's sortBlocks, telling which slices it lays; Components; Reduction. -/
namespace Go.Proofs.YtmmgdeoballhpaaDoor
open Go.RowKit Go.Shelf Sx

set_option maxRecDepth 100000 in
set_option maxHeartbeats 8000000 in
theorem oSortB_own (b c base : Nat) (L : List Nat) (v : Value) (vs : List Value) (bs : List (List Nat)) (w : World) (h : IsRel w b c L) (hT : Tab w) (hv0 : ClR w base v vs (bs.map toI)) (hm : bs.length ≤ 256) (hp : ∀ bl ∈ bs, bl.length ≤ 256 ∧ ∀ p ∈ bl, p < L.length) (hX : (sortOf (betw L bs)).length = bs.length) :
    Calls Tryd.prog 39 #[pv b, v] w fun e w' => ∃ v', e = .returned (.tuple #[v', .int .i64 0]) ∧ w'.ownsRow w.heap.size 29 1 v' bs.length ((sortOf (betw L bs)).map (fun i => vs.getD i (.slice none 0 0))) ∧ Below w.heap.size w w' := by
  have hv := hv0.blocks
  have hbt := oBetween_calls b c L v bs w h hT hv hm hp
  obtain ⟨i0, hi, hz0, hz1, hz2⟩ := info_parts Tryd.infoints
  go_enter Tryd.func39, Tryd.ntmps39
  go_wp2_with fail
  refine hbt.mono ?_
  rintro e w1 ⟨b2, c2, rfl, hM⟩
  go_wp2_with fail
  refine (oSort_calls b2 c2 _ w1 hM.rel (hT.step hM.below)).mono ?_
  rintro e w2 ⟨v2, code, rfl, ⟨hA1, hA2⟩, hB2⟩
  rw [betw_length] at hA1 hA2
  have hBw : Below w.heap.size w w2 := below_step hM.below hM.below.size hB2
  clear hbt
  obtain ⟨rfl, ho⟩ := hA1 hX
  have hso := sortOf_lt (betw L bs)
  rw [betw_length] at hso
  have hIR : IntsR w2 v2 (toI (sortOf (betw L bs))) := by
    have : w2.ownsRow w1.heap.size 3 1 v2 (toI (sortOf (betw L bs))).length (encJ (toI (sortOf (betw L bs)))) := by
      rw [toI_length, hX, show encJ (toI (sortOf (betw L bs))) = encN (sortOf (betw L bs)) from by simp [encJ, toI, encN]]
      exact ho
    exact owns_intsR this
  have hC := hv0.step hBw
  have hvl : vs.length = bs.length := by have := hC.rows.len; simpa using this
  obtain ⟨p, cap, rfl⟩ := owns_len hC.own
  have hvs : 0 < bs.length → ∃ s, p = some ⟨s, 0, none⟩ ∧ s < w2.heap.size ∧ ∀ (i : Nat) (u : Value), vs[i]? = some u → w2.cell? ⟨s, i, none⟩ = some u := fun h0 => by
    obtain ⟨s, cap', e1, h1, h2⟩ := owns_cells hC.own rfl (by omega)
    injection e1 with e1 _ _
    exact ⟨s, e1, h1, h2⟩
  have hrow : ∀ (i : Nat) (u : Value) (bl : List Nat), vs[i]? = some u → bs[i]? = some bl → IntsR w2 u (toI bl) := fun i u bl hu hbl => owns_intsR (hC.rows.row i u (toI bl) hu (by rw [List.getElem?_map, hbl]; rfl))
  rw [hvl]
  obtain ⟨p2, cap2, rfl, hq⟩ : ∃ a cap, v2 = .slice a (sortOf (betw L bs)).length cap ∧ (0 < (sortOf (betw L bs)).length → ∃ s o, a = some ⟨s, o, none⟩ ∧ s < w2.heap.size ∧ ∀ (i x : Nat), (sortOf (betw L bs))[i]? = some x → w2.cell? ⟨s, o + i, none⟩ = some (.int .i64 x)) := by
    rcases hIR with ⟨a, cap, e, e2⟩ | ⟨s, o, cap, e, h1, h2⟩
    · have : (sortOf (betw L bs)).length = 0 := by have := congrArg List.length e2; simpa [toI] using this
      exact ⟨a, cap, by rw [this]; exact e, fun h0 => by omega⟩
    · exact ⟨_, cap, by rw [toI_length] at e; exact e, fun _ => ⟨s, o, rfl, h1, fun i x hx => h2 i _ (toI_at hx)⟩⟩
  have hol : (sortOf (betw L bs)).length ≤ 256 := by omega
  have HX := hid_of hX
  have HQ := hid_of hq
  have HSO := hid_of hso
  have HVS := hid_of hvs
  have HROW := hid_of hrow
  clear hA1 hA2 ho hIR hq hX hso hvs hrow hv hv0 hC
  generalize hod : sortOf (betw L bs) = od at *
  have HOD := hid_of hod
  clear hod
  go_wp2_with fail
  go_loopw [8, 20] (fun v8 i wr => ∃ k : Nat, k ≤ od.length ∧ i = .int .i64 k ∧ Hid (wr.ownsRow w2.heap.size 29 1 v8 k ((od.take k).map (fun i => vs.getD i (.slice none 0 0)))) ∧ Below w2.heap.size w2 wr) (fun _ i _ => od.length - (intOf i).toNat)
  case atStart => exact ⟨0, by omega, rfl, World.ownsRow_nil _ _ _ _, Below.refl _ _⟩
  case round =>
    obtain ⟨k, hk, rfl, HO, hBl⟩ := hrel
    by_cases hlt : k < od.length
    · obtain ⟨s2, o2, rfl, hs3, hs4⟩ := HQ.out (by omega)
      obtain ⟨j, hj⟩ : ∃ j, od[k]? = some j := ⟨_, List.getElem?_eq_getElem hlt⟩
      have hjn := HSO.out j (List.mem_of_getElem? hj)
      obtain ⟨s, rfl, hs1, hs2⟩ := HVS.out (by omega)
      obtain ⟨u, hu⟩ : ∃ u, vs[j]? = some u := ⟨_, List.getElem?_eq_getElem (by omega)⟩
      obtain ⟨bl, hbl⟩ : ∃ bl, bs[j]? = some bl := ⟨_, List.getElem?_eq_getElem hjn⟩
      obtain ⟨ua, ucap, rfl⟩ := (HROW.out j u bl hu hbl).len
      have c0 := (hBl.cell (p := ⟨s2, o2 + k, none⟩) hs3).trans (hs4 k j hj)
      have c1 := (hBl.cell (p := ⟨s, j, none⟩) hs1).trans (hs2 j _ hu)
      have HE : Hid ((od.take (k + 1)).map (fun i => vs.getD i (.slice none 0 0)) = (od.take k).map (fun i => vs.getD i (.slice none 0 0)) ++ [.slice ua (toI bl).length ucap]) := by
        show _ = _
        rw [List.take_add_one, hj, List.map_append]
        simp [List.getD, hu]
      have j0 : (0 : Int) ≤ (j : Int) := by omega
      have j1 : (j : Int) < (bs.length : Int) := by omega
      have zB := hBl.size
      clear hj hu hbl hs2 hs4
      generalize (toI bl).length = ul at *
      generalize (od.take k).map (fun i => vs.getD i (.slice none 0 0)) = xs at *
      go_wp2_with (at_builtin; refine wpList_append_own_at _ rfl _ _ 25 rfl w2.heap.size 29 i0 (.slice none 0 0) 1 24 Tryd.underlying25 hi hz0 hz1 hz2 rfl (by decide) u8 k xs rfl (HO.out.alloc _) ⟨_, 0, none⟩ 1 1 [.slice ua ul ucap] rfl rfl (by intro k u hk; match k, hk with | 0, hk => simp at hk; subst hk; exact (Blk.new _ _ _).cell rfl) (by simp [Value.oneCell']) (by unfold maxLen; omega) (by omega) (by simp; omega) ?_; intro v' w5 hown' hgrow _ hat)
      refine ⟨⟨k + 1, by omega, by go_num, ?_, ?_⟩, by simp [intOf]; omega⟩
      · rw [HE.out]; exact hown'
      · exact (hBl.alloc hBl.size _).grown hgrow (by simp; omega) (fun k e => owns_ge HO.out e)
    · obtain rfl : k = od.length := by omega
      have ho1 := HO.out
      rw [List.take_length] at ho1
      obtain ⟨a8, c8, hv8⟩ := owns_len ho1
      go_wp2_with fail
      go_ret2
      refine ⟨u8, rfl, ?_, below_step hBw hBw.size hBl⟩
      have := owns_lo ho1 hBw.size
      rw [HX.out] at this
      rw [HOD.out]
      exact this
/-- The lists in another order. -/
theorem ClR.perm {W : World} {base : Nat} {v v' : Value} {vs : List Value} {bs : List (List Nat)} {od : List Nat} (h : ClR W base v vs (bs.map toI)) (hn : od.Nodup) (hlt : ∀ i ∈ od, i < bs.length) (ho : W.ownsRow base 29 1 v' od.length (od.map (fun i => vs.getD i (.slice none 0 0)))) : ClR W base v' (od.map (fun i => vs.getD i (.slice none 0 0))) ((od.map (fun i => bs.getD i [])).map toI) := by
  have hvl : vs.length = bs.length := by have := h.rows.len; simpa using this
  have key : ∀ (i : Nat) (x : Value), (od.map (fun i => vs.getD i (.slice none 0 0)))[i]? = some x → ∃ j, od[i]? = some j ∧ vs[j]? = some x ∧ j < bs.length := fun i x hx => by
    rw [List.getElem?_map] at hx
    cases hj : od[i]? with
    | none => rw [hj] at hx; cases hx
    | some j =>
      rw [hj] at hx
      have hjn := hlt j (List.mem_of_getElem? hj)
      simp at hx
      refine ⟨j, rfl, ?_, hjn⟩
      rw [List.getElem?_eq_getElem (by omega)] at hx ⊢
      simpa using hx
  refine ⟨by rw [List.length_map]; exact ho, by simp, fun i x l hx hl => ?_, fun i j x y g hx hy h1 h2 => ?_⟩
  · obtain ⟨j, hj, hvj, hjn⟩ := key i x hx
    refine h.rows.row j x l hvj ?_
    rw [List.getElem?_map, List.getElem?_map, hj] at hl
    simp at hl
    rw [List.getElem?_map, List.getElem?_eq_getElem hjn]
    simp
    rw [List.getElem?_eq_getElem hjn] at hl
    simpa using hl
  · obtain ⟨a, ha, hva, _⟩ := key i x hx
    obtain ⟨b, hb, hvb, _⟩ := key j y hy
    have := h.rows.apart a b x y g hva hvb h1 h2
    subst this
    have l1 := (List.getElem?_eq_some_iff.1 ha).1
    exact (List.getElem?_inj l1 hn).1 (by rw [ha, hb])
set_option maxHeartbeats 1000000 in
theorem oComponents_calls (b c : Nat) (L : List Nat) (F : Nat → Nat → Bool) (w : World) (h : IsRel w b c L) (hT : Tab w) (hTw : TwO L.length F L) :
    Calls Tryd.prog 15 #[pv b] w fun e w' => ∃ v vs, e = .returned v ∧ ClR w' w.heap.size v vs ((compsL L).map toI) ∧ Below w.heap.size w w' := by
  have hl := h.len
  have hw := h.wf rfl
  have hC := clo_plus hTw hw
  have hcl := oClasses_calls b c L w h hT (bothE (cloB L)) rfl hC.eqv
  have hall := comps_all hTw hl h.low hC
  have hgd := sortOf_good (betw L (clsK (bothE (cloB L)) L.length))
  have hcn := cls_len (bothE (cloB L)) L.length
  have hp : ∀ bl ∈ clsK (bothE (cloB L)) L.length, bl.length ≤ 256 ∧ ∀ p ∈ bl, p < L.length := fun bl hbl => by
    obtain ⟨u, _, rfl⟩ := List.mem_map.1 hbl
    have := cl_len (bothE (cloB L)) L.length u
    exact ⟨by omega, fun p hp => (clK_mem.1 hp).1⟩
  have HA := hid_of hall
  have HG := hid_of hgd
  have HP := hid_of hp
  have HSB : Hid (compsL L = (sortOf (betw L (clsK (bothE (cloB L)) L.length))).map (fun i => (clsK (bothE (cloB L)) L.length).getD i [])) := rfl
  clear hall hgd hp hw hC hTw
  generalize clsK (bothE (cloB L)) L.length = bs at *
  generalize compsL L = cs at *
  go_enter Tryd.func15, Tryd.ntmps15
  go_wp2_with fail
  refine hcl.mono ?_
  rintro e w1 ⟨v1, vs, rfl, hC1, hB1⟩
  go_wp2_with fail
  refine (oSortB_own b c w.heap.size L v1 vs bs w1 (h.below hB1) (hT.step hB1) hC1 (by omega) HP.out HA.out).mono ?_
  rintro e w2 ⟨v2, rfl, ho2, hB2⟩
  go_wp2_with fail
  go_ret
  refine ⟨v2, (sortOf (betw L bs)).map (fun i => vs.getD i (.slice none 0 0)), rfl, ?_, below_step hB1 hB1.size hB2⟩
  rw [HSB.out]
  obtain ⟨g1, g2, _⟩ := HG.out
  rw [betw_length] at g2
  exact (hC1.step hB2).perm g1 g2 (by rw [HA.out]; exact owns_lo ho2 hB1.size)
/-- What Reduction answers. -/
def redL (L : List Nat) : List Nat := minusL (plusL L) (compL (plusL L) (plusL L))
set_option maxHeartbeats 1000000 in
theorem oReduction_no (b c : Nat) (L : List Nat) (w : World) (h : IsRel w b c L) (H0 : Hid ((loopsL (plusL L) == 0) = false)) :
    Calls Tryd.prog 16 #[pv b] w fun e w' => e = .returned (.tuple #[.pointer none, .int .i64 3]) ∧ Below w.heap.size w w' := by
  go_enter Tryd.func16, Tryd.ntmps16
  go_wp2_with fail
  refine (Plus_calls b c L _ h).mono ?_
  rintro e w1 ⟨b1, c1, rfl, hM1⟩
  go_wp2_with fail
  refine (Irr_calls b1 c1 (plusL L) _ hM1.rel).mono ?_
  rw [H0.out]
  rintro e w2 ⟨rfl, hB2⟩
  go_wp2_with fail
  go_ret2
  exact ⟨rfl, below_step hM1.below hM1.below.size hB2⟩
set_option maxHeartbeats 1000000 in
theorem oReduction_yes (b c : Nat) (L : List Nat) (w : World) (h : IsRel w b c L) (hT : Tab w) (H0 : Hid ((loopsL (plusL L) == 0) = true)) :
    Calls Tryd.prog 16 #[pv b] w fun e w' => ∃ b2 c2, e = .returned (.tuple #[pv b2, .int .i64 0]) ∧ Made w w' b2 c2 (redL L) := by
  go_enter Tryd.func16, Tryd.ntmps16
  go_wp2_with fail
  refine (Plus_calls b c L _ h).mono ?_
  rintro e w1 ⟨b1, c1, rfl, hM1⟩
  go_wp2_with fail
  refine (Irr_calls b1 c1 (plusL L) _ hM1.rel).mono ?_
  rw [H0.out]
  rintro e w2 ⟨rfl, hB2⟩
  have hM2 := hM1.step hB2
  go_wp2_with fail
  refine (Comp_calls b1 c1 b1 c1 (plusL L) (plusL L) _ hM2.rel hM2.rel (hT.step hM2.below)).mono ?_
  rintro e w3 ⟨b3, c3, rfl, hM3⟩
  go_wp2_with fail
  refine (Minus_calls b1 c1 b3 c3 (plusL L) (compL (plusL L) (plusL L)) _ (hM2.rel.below hM3.below) hM3.rel).mono ?_
  rintro e w4 ⟨b4, c4, rfl, hM4⟩
  have hB3 : Below w.heap.size w w3 := below_step hM2.below hM2.below.size hM3.below
  go_wp2_with fail
  go_ret2
  exact ⟨b4, c4, rfl, hM4.rel, Nat.le_trans hB3.size hM4.hb, Nat.le_trans hB3.size hM4.hc, below_step hB3 hB3.size hM4.below⟩
end Go.Proofs.YtmmgdeoballhpaaDoor
/- The contract of the reference's Components, walked. -/
namespace Go.Proofs.YtmmgdeoballhpaaDoor
open Go.RowKit Go.Shelf Sx

/-- The least point from k on, as the reference looks for it. -/
def LeastO (E : Nat → Nat → Bool) (p k v : Nat) : Prop := (v = p ∧ ∀ q, k ≤ q → q < p → E p q = false) ∨ (k ≤ v ∧ v < p ∧ E p v = true ∧ ∀ q, k ≤ q → q < v → E p q = false)
theorem LeastO.start (E : Nat → Nat → Bool) (p : Nat) : LeastO E p p p := .inl ⟨rfl, fun q h1 h2 => by omega⟩
theorem LeastO.no {E : Nat → Nat → Bool} {p k v : Nat} (h : LeastO E p (k + 1) v) (hf : E p k = false) : LeastO E p k v := by
  rcases h with ⟨rfl, h⟩ | ⟨h1, h2, h3, h4⟩
  · refine .inl ⟨rfl, fun q hq hn => ?_⟩
    by_cases e : q = k
    · subst e; exact hf
    · exact h q (by omega) hn
  · refine .inr ⟨by omega, h2, h3, fun q hq hp => ?_⟩
    by_cases e : q = k
    · subst e; exact hf
    · exact h4 q (by omega) hp
theorem LeastO.yes {E : Nat → Nat → Bool} {p k : Nat} (hk : k < p) (hf : E p k = true) : LeastO E p k k := .inr ⟨Nat.le_refl _, hk, hf, fun q h1 h2 => by omega⟩
theorem LeastO.done {E : Nat → Nat → Bool} {p v : Nat} (h : LeastO E p 0 v) : v = leastE E p := by
  rcases leastE_cases E p with ⟨e, h1⟩ | ⟨e, h2, h3⟩
  · rcases h with ⟨rfl, _⟩ | ⟨_, k2, k3, _⟩
    · exact e.symm
    · rw [h1 v k2] at k3; cases k3
  · rcases h with ⟨rfl, k1⟩ | ⟨_, k2, k3, k4⟩
    · rw [k1 _ (Nat.zero_le _) e] at h2; cases h2
    · rcases Nat.lt_trichotomy v (leastE E p) with g | g | g
      · rw [h3 v g] at k3; cases k3
      · exact g
      · rw [k4 _ (Nat.zero_le _) g] at h2; cases h2
theorem upTo_getD {n k : Nat} {f : Nat → Int} {i : Nat} (hi : i < n) : (upTo n k f).getD i 0 = if i < k then f i else 0 := by
  unfold upTo
  simp [List.getD_eq_getElem?_getD, hi]
theorem upTo_val {n k : Nat} {f : Nat → Int} (hk : k < n) (x : Int) (hx : x = f k) : (upTo n k f).set k x = upTo n (k + 1) f := by
  rw [hx]
  exact upTo_set f hk
theorem set_set' (l : List Int) (i : Nat) (x y : Int) : (l.set i x).set i y = l.set i y := by simp
theorem offs_toI (E : Nat → Nat → Bool) (n : Nat) : toI (offs E n) = (List.range n).map (fun p => ((leastE E p : Nat) : Int)) := by simp [toI, offs]
/-- The points of a list, as far as they are looked at. -/
def ofU (O : List Nat) (u k : Nat) : List Nat := (List.range k).filter (fun p => O.getD p 0 == u)
theorem ofU_yes {O : List Nat} {u k : Nat} (h : O.getD k 0 = u) : ofU O u (k + 1) = ofU O u k ++ [k] := by
  unfold ofU
  rw [List.range_succ, List.filter_append, List.filter_cons_of_pos (by show (O.getD k 0 == u) = true; rw [h]; exact beq_self_eq_true _)]
  rfl
theorem ofU_no {O : List Nat} {u k : Nat} (h : ¬ O.getD k 0 = u) : ofU O u (k + 1) = ofU O u k := by
  unfold ofU
  rw [List.range_succ, List.filter_append, List.filter_cons_of_neg (by show ¬ (O.getD k 0 == u) = true; rw [beq_iff_eq]; exact h)]
  exact List.append_nil _
theorem ofU_len (O : List Nat) (u k : Nat) : (ofU O u k).length ≤ k := by
  unfold ofU
  have := List.length_filter_le (fun p => O.getD p 0 == u) (List.range k)
  rw [List.length_range] at this
  exact this
theorem ofU_cl (E : Nat → Nat → Bool) (n u : Nat) : ofU (offs E n) u n = clK E n u := by
  unfold ofU clK
  apply List.filter_congr
  intro p hp
  rw [offs_at (List.mem_range.1 hp)]
theorem encN_toI (l : List Nat) (x : Nat) : encJ (toI l) ++ [.int .i64 ((x : Nat) : Int)] = encJ (toI (l ++ [x])) := by simp [encJ, toI]
set_option maxRecDepth 100000 in
set_option maxHeartbeats 16000000 in
theorem r2comp_calls (lo n : Nat) (hn : n ≤ 256) (x : Option Addr) (y z : Nat) (rb : Nat → Nat) (F : Nat → Nat → Bool) (L : List Nat) (w : World) (h : RefM lo w (.slice x y z) n n rb F) (hL : n = L.length) (hT : TwO L.length F L) (hlow : ∀ R ∈ L, R < 2 ^ L.length) :
    Calls Tryd.prog 28 #[.agg #[.int .i64 ((n : Nat) : Int), .slice x y z]] w fun e w' => ∃ v vs, e = .returned v ∧ ClR w' w.heap.size v vs ((compsL L).map toI) ∧ Below w.heap.size w w' := by
  obtain ⟨i0, hi, hz0, hz1, hz2⟩ := info_parts Tryd.infoint
  obtain ⟨i1, hj, hy0, hy1, hy2⟩ := info_parts Tryd.infoints
  have hmi := fun W => make_ints n (by omega) W
  have hmb := fun W => make_bools n (by omega) W
  have hw := wf_of_low hlow
  have hTw : Twin L.length F L := ⟨hw, fun p q hp hq => by rw [hT.same p q hp hq]; rfl⟩
  have HCE : Hid (∀ p q, p < n → q < n → plusFn F n p q = cloB L p q) := fun p q hp hq => by
    have := (twin_plus hTw).same p q (by omega) (by omega)
    rw [← hL] at this
    rw [Bool.eq_iff_iff, this]
    rfl
  have hClo := clo_plus hT hw
  have HEv := hid_of hClo.eqv
  have HUn := hid_of (units_cls hClo.eqv)
  have HT := hid_of hT
  have HLW := hid_of hlow
  have HLn := hid_of hL
  have hA1 := h.alloc (.cells #[.int .i64 ((n : Nat) : Int), .slice x y z] 46)
  have hpl := refPlus_calls lo n hn x y z rb F (w.alloc (.cells #[.int .i64 ((n : Nat) : Int), .slice x y z] 46)) hA1
  have hb0 := Blk.new w 46 #[.int .i64 ((n : Nat) : Int), .slice x y z]
  have b0 : (w.alloc (.cells #[.int .i64 ((n : Nat) : Int), .slice x y z] 46)).cell? ⟨w.heap.size, 0, none⟩ = some (.int .i64 ((n : Nat) : Int)) := hb0.cell rfl
  have b1 : (w.alloc (.cells #[.int .i64 ((n : Nat) : Int), .slice x y z] 46)).cell? ⟨w.heap.size, 1, none⟩ = some (.slice x y z) := hb0.cell rfl
  have HPL := hid_of hpl
  have HB0 := hid_of hb0
  clear hT hlow hL hTw hw hClo hpl hb0 hA1
  go_enter Tryd.func28, Tryd.ntmps28
  go_wp2_with fail
  refine HPL.out.mono ?_
  rintro e w1 ⟨M1, rb1, rfl, hM1, hB1⟩
  obtain ⟨x1, y1, z1, rfl⟩ := hM1.slice
  have hsz1 : w.heap.size < w1.heap.size := by have := hB1.size; simp at this; omega
  have hM1' : RefM (w.heap.size + 1) w1 (.slice x1 y1 z1) n n rb1 (plusFn F n) := by rw [World.size_alloc] at hM1; exact hM1
  have hBw1 : Below w.heap.size w w1 := ((Below.refl _ w).alloc (Nat.le_refl _) _).trans (hB1.mono (by simp))
  have hP0 : P1 w ((w1.alloc (.cells #[.int .i64 ((n : Nat) : Int), .slice x1 y1 z1] 46)).alloc (.cells (intsA (List.replicate n 0)) 3)) n (.slice x y z) w1.heap.size (.slice x1 y1 z1) rb1 (plusFn F n) (List.replicate n 0) := by
    refine ⟨(hBw1.alloc (by omega) _).alloc (by simp; omega) _, ((HB0.out.of_below hB1).alloc _).alloc _, (Blk.new w1 _ _).alloc _, (hM1'.alloc _).alloc _, ?_, hsz1, fun p hp => (hM1'.row p hp).2.lt, fun g hg => (hM1'.own.lt g hg).2⟩
    have := Blk.new (w1.alloc (.cells #[.int .i64 ((n : Nat) : Int), .slice x1 y1 z1] 46)) 3 (intsA (List.replicate n 0))
    rw [World.size_alloc] at this
    exact this
  have HP0 := hid_of hP0
  have b0 : (w1.alloc (.cells #[.int .i64 ((n : Nat) : Int), .slice x1 y1 z1] 46)).cell? ⟨w.heap.size, 0, none⟩ = some (.int .i64 ((n : Nat) : Int)) := ((HB0.out.of_below hB1).alloc _).cell rfl
  clear hP0 hM1 hM1' hB1 hBw1 HB0 HPL b1
  go_wp2_with fail
  generalize ((w1.alloc (.cells #[.int .i64 ((n : Nat) : Int), .slice x1 y1 z1] 46)).alloc (.cells (intsA (List.replicate n 0)) 3)) = wA at *
  generalize w1.heap.size = cb at *
  clear b0
  go_loopg [5] n (fun f i wr => ∃ k : Nat, i = .int .i64 ((k : Nat) : Int) ∧ k ≤ n ∧ Hid (k + f = n) ∧ Hid (P1 w wr n (.slice x y z) cb (.slice x1 y1 z1) rb1 (plusFn F n) (upTo n k (fun q => ((leastE (bothE (cloB L)) q : Nat) : Int)))))
  case atStart => exact ⟨0, rfl, Nat.zero_le _, Nat.zero_add _, by rw [upTo_zero]; exact HP0.out⟩
  case round =>
    clear HP0
    obtain ⟨k, rfl, hk, HKF, HA⟩ := hrel
    have b0 : wr.cell? ⟨w.heap.size, 0, none⟩ = some (.int .i64 ((n : Nat) : Int)) := HA.out.box.cell rfl
    by_cases hlt : k < n
    · obtain ⟨v1, c1⟩ := cell_upTo HA.out.of_ hlt
      have f1 := HA.out.of_.frozen k
      have k0 : (0 : Int) ≤ ((k : Nat) : Int) := by omega
      have k1 : ((k : Nat) : Int) < ((n : Nat) : Int) := by omega
      have HA2 := hid_of (HA.out.setO k ((k : Nat) : Int))
      go_wp2_with fail
      clear HA c1 f1 b0
      generalize (wr.setCell ⟨cb + 1, k, none⟩ (.int .i64 ((k : Nat) : Int))) = wB at *
      go_loopg [6] k (fun f i wr => ∃ (q v : Nat), i = .int .i64 (((q : Nat) : Int) - 1) ∧ q ≤ k ∧ v < n ∧ Hid (q = f) ∧ Hid (LeastO (bothE (cloB L)) k q v) ∧ Hid (P1 w wr n (.slice x y z) cb (.slice x1 y1 z1) rb1 (plusFn F n) ((upTo n k (fun q => ((leastE (bothE (cloB L)) q : Nat) : Int))).set k ((v : Nat) : Int))))
      case atStart => exact ⟨k, k, rfl, Nat.le_refl _, hlt, rfl, LeastO.start _ _, HA2.out⟩
      case round =>
        clear HA2
        obtain ⟨q, v, rfl, hq, hv, HQF, HLO, HA⟩ := hrel
        by_cases hq0 : 0 < q
        · obtain ⟨q', rfl⟩ : ∃ q', q = q' + 1 := ⟨q - 1, by omega⟩
          have eq1 : (((q' + 1 : Nat) : Int)) - 1 = ((q' : Nat) : Int) := by omega
          rw [eq1]
          have g0 : (0 : Int) ≤ ((q' : Nat) : Int) := by omega
          have g1 : ((q' : Nat) : Int) < ((n : Nat) : Int) := by omega
          have cb1 : wr.cell? ⟨cb, 1, none⟩ = some (.slice x1 y1 z1) := HA.out.cbox.cell rfl
          obtain ⟨g, cap', e, _, _, _, m4, m5, _, _⟩ := HA.out.cm.at_ hlt (show q' < n by omega)
          obtain ⟨g2, cap2, e2, _, _, _, t4, t5, _, _⟩ := HA.out.cm.at_ (show q' < n by omega) hlt
          obtain ⟨hx1, hx2, hx3⟩ : some ⟨g, 0, none⟩ = x1 ∧ n = y1 ∧ cap' = z1 := by cases e; exact ⟨rfl, rfl, rfl⟩
          subst hx1 hx2 hx3
          obtain ⟨hx1, hx3⟩ : g2 = g ∧ cap2 = cap' := by cases e2; exact ⟨rfl, rfl⟩
          subst hx1 hx3
          clear e e2
          rw [HCE.out k q' hlt (by omega)] at m5
          rw [HCE.out q' k (by omega) hlt] at t5
          cases hC1 : cloB L k q'
          · rw [hC1] at m5
            have HL2 := hid_of (HLO.out.no (by unfold bothE; rw [hC1]; rfl))
            clear hC1 t4 t5
            go_wp2_with fail
            go_roundg q'
            case measure => have := HQF.out; omega
            case rel => exact ⟨q', v, by go_num, by omega, hv, rfl, HL2.out, HA.out⟩
          · rw [hC1] at m5
            cases hC2 : cloB L q' k
            · rw [hC2] at t5
              have HL2 := hid_of (HLO.out.no (by unfold bothE; rw [hC1, hC2]; rfl))
              clear hC1 hC2
              go_wp2_with fail
              go_roundg q'
              case measure => have := HQF.out; omega
              case rel => exact ⟨q', v, by go_num, by omega, hv, rfl, HL2.out, HA.out⟩
            · rw [hC2] at t5
              have HL2 := hid_of (LeastO.yes (E := bothE (cloB L)) (p := k) (k := q') (by omega) (by unfold bothE; rw [hC1, hC2]; rfl))
              have o1 := cellI_getD HA.out.of_ (i := k) (by rw [List.length_set, upTo_length]; exact hlt)
              have of1 := HA.out.of_.frozen k
              have hA2 := HA.out.setO k ((q' : Nat) : Int)
              rw [set_set'] at hA2
              generalize ((upTo n k (fun q => ((leastE (bothE (cloB L)) q : Nat) : Int))).set k ((v : Nat) : Int)).getD k 0 = ov at *
              clear hC1 hC2
              go_wp2_with fail
              go_roundg q'
              case measure => have := HQF.out; omega
              case rel => exact ⟨q', q', by go_num, by omega, by omega, rfl, HL2.out, hA2⟩
        · obtain rfl : q = 0 := by omega
          have hm1 : ¬ (0 : Int) ≤ ((0 : Nat) : Int) - 1 := by omega
          have HE := hid_of HLO.out.done
          have hA3 := HA.out
          rw [upTo_val hlt _ (by rw [HE.out])] at hA3
          go_wp2_with fail
          go_roundg (n - (k + 1))
          case measure => have := HKF.out; omega
          case rel => exact ⟨k + 1, by go_num, by omega, by have := HKF.out; rw [Hid]; omega, hA3⟩
    · obtain rfl : k = n := by omega
      have hA1 := HA.out
      rw [upTo_all, ← offs_toI] at hA1
      have hrn := refNew_calls ((k : Nat) : Int) wr
      have hck : clampN ((k : Nat) : Int) = k := by unfold clampN; omega
      rw [hck] at hrn
      have HRN := hid_of hrn
      clear hrn hck HA
      go_wp2_with fail
      refine HRN.out.mono ?_
      rintro e w2 ⟨M2, rb2, rfl, hM2, hB2⟩
      obtain ⟨x2, y2, z2, rfl⟩ := hM2.slice
      have hoL : (offs (bothE (cloB L)) k).length = k := by simp [offs]
      have HOL := hid_of hoL
      have hbA := (Below.refl w2.heap.size w2).alloc (Nat.le_refl _) (.cells #[.int .i64 ((k : Nat) : Int), .slice x2 y2 z2] 46)
      have hub : cb + 1 < wr.heap.size := hA1.of_.lt
      have hb2s := hB2.size
      have hlo1 := hA1.lo
      have hG3 : P3 w (w2.alloc (.cells #[.int .i64 ((k : Nat) : Int), .slice x2 y2 z2] 46)) k (.slice x y z) (cb + 1) (offs (bothE (cloB L)) k) w2.heap.size wr.heap.size (.slice x2 y2 z2) rb2 (fun _ _ => false) :=
        ⟨(below_step hA1.below hA1.below.size hB2).alloc (Nat.le_trans hA1.below.size hb2s) _, (hA1.box.of_below hB2).alloc _, (hA1.of_.of_below hB2).alloc _, by omega, hM2.below hbA, Blk.new w2 _ _, by omega, fun q hq => (hM2.row q hq).2.lt, fun g hg => (hM2.own.lt g hg).2⟩
      have HG3 := hid_of hG3
      clear HRN hM2 hbA hG3 hA1 hB2 hoL
      generalize hO : offs (bothE (cloB L)) k = O at *
      have HO := hid_of hO
      clear hO
      go_wp2_with fail
      generalize (w2.alloc (.cells #[.int .i64 ((k : Nat) : Int), .slice x2 y2 z2] 46)) = wB at *
      generalize w2.heap.size = sb at *
      generalize wr.heap.size = lo2 at *
      clear b0
      go_loopg [8] k (fun f i wq => ∃ (pp : Nat) (S : Nat → Nat → Bool), i = .int .i64 ((pp : Nat) : Int) ∧ pp ≤ k ∧ Hid (pp + f = k) ∧ Hid (P3 w wq k (.slice x y z) (cb + 1) O sb lo2 (.slice x2 y2 z2) rb2 S) ∧ Hid (SmK k (acrF F O) O (List.replicate k (-1)) pp 0 S))
      case atStart => exact ⟨0, _, rfl, Nat.zero_le _, Nat.zero_add _, HG3.out, SmK.start _ _ _ _⟩
      case round =>
        clear HG3
        obtain ⟨pp, S, rfl, hpp, HPF, HA, HS⟩ := hrel
        have b0 : wr.cell? ⟨w.heap.size, 0, none⟩ = some (.int .i64 ((k : Nat) : Int)) := HA.out.box.cell rfl
        by_cases hlt : pp < k
        · have P0 : (0 : Int) ≤ ((pp : Nat) : Int) := by omega
          have P1' : ((pp : Nat) : Int) < ((k : Nat) : Int) := by omega
          go_wp2_with fail
          clear b0
          go_loopg [9] k (fun f i wq => ∃ (q : Nat) (S : Nat → Nat → Bool), i = .int .i64 ((q : Nat) : Int) ∧ q ≤ k ∧ Hid (q + f = k) ∧ Hid (P3 w wq k (.slice x y z) (cb + 1) O sb lo2 (.slice x2 y2 z2) rb2 S) ∧ Hid (SmK k (acrF F O) O (List.replicate k (-1)) pp q S))
          case atStart => exact ⟨0, S, rfl, Nat.zero_le _, Nat.zero_add _, HA.out, HS.out⟩
          case round =>
            clear HA HS
            obtain ⟨q, S, rfl, hqk, HQF, HA, HS⟩ := hrel
            have b0 : wr.cell? ⟨w.heap.size, 0, none⟩ = some (.int .i64 ((k : Nat) : Int)) := HA.out.box.cell rfl
            have b1 : wr.cell? ⟨w.heap.size, 1, none⟩ = some (.slice x y z) := HA.out.box.cell rfl
            by_cases hql : q < k
            · have Q0 : (0 : Int) ≤ ((q : Nat) : Int) := by omega
              have Q1 : ((q : Nat) : Int) < ((k : Nat) : Int) := by omega
              obtain ⟨g, cap', e, _, _, _, m4, m5, _, _⟩ := (h.below HA.out.below).at_ hlt hql
              obtain ⟨hx1, hx2, hx3⟩ : some ⟨g, 0, none⟩ = x ∧ k = y ∧ cap' = z := by cases e; exact ⟨rfl, rfl, rfl⟩
              subst hx1 hx2 hx3
              clear e
              have o1 := cellI_getD HA.out.of_ (i := pp) (by rw [toI_length, HOL.out]; exact hlt)
              have o2 := cellI_getD HA.out.of_ (i := q) (by rw [toI_length, HOL.out]; exact hql)
              rw [toI_getD] at o1 o2
              cases hF : F pp q
              · rw [hF] at m5
                have HS2 := hid_of (HS.out.no (fun hc => by have := hc.1; unfold acrF at this; rw [hF] at this; cases this))
                clear hF o1 o2
                go_wp2_with fail
                go_quiet (fail)
                go_wp2_with fail
                go_roundg (k - (q + 1))
                case measure => have := HQF.out; omega
                case rel => exact ⟨q + 1, S, by go_num, by omega, by have := HQF.out; rw [Hid]; omega, HA.out.step (below_drewN (Below.refl _ _) _), HS2.out⟩
              · rw [hF] at m5
                by_cases hOO : O.getD pp 0 = O.getD q 0
                · have HS2 := hid_of (HS.out.no (fun hc => by have := hc.1; unfold acrF at this; rw [hF, hOO] at this; simp at this))
                  rw [hOO] at o1
                  generalize O.getD q 0 = ov at *
                  have q1 : (((ov : Nat) : Int) != ((ov : Nat) : Int)) = false := by simp
                  clear hF hOO
                  go_wp2_with fail
                  go_quiet (fail)
                  go_wp2_with fail
                  go_roundg (k - (q + 1))
                  case measure => have := HQF.out; omega
                  case rel => exact ⟨q + 1, S, by go_num, by omega, by have := HQF.out; rw [Hid]; omega, HA.out.step (below_drewN (Below.refl _ _) _), HS2.out⟩
                · have hX : (List.replicate k (-1 : Int)).getD pp 0 ≠ ((q : Nat) : Int) := by
                    rw [List.getD_eq_getElem?_getD, List.getElem?_replicate, if_pos hlt]
                    simp
                  have HS2 := hid_of (HS.out.yes hlt hql (by unfold acrF; rw [hF, Bool.true_and, bne_iff_ne]; exact hOO) hX)
                  have hu : O.getD pp 0 < k := by
                    rw [← HO.out, offs_at hlt]
                    have := leastE_le (bothE (cloB L)) pp
                    omega
                  have hv2 : O.getD q 0 < k := by
                    rw [← HO.out, offs_at hql]
                    have := leastE_le (bothE (cloB L)) q
                    omega
                  obtain ⟨g2, cap2, e2, t1, t2, t3, t4, t5, t6, t7⟩ := HA.out.sm.at_ hu hv2
                  obtain ⟨hx1, hx2, hx3⟩ : some ⟨g2, 0, none⟩ = x2 ∧ k = y2 ∧ cap2 = z2 := by cases e2; exact ⟨rfl, rfl, rfl⟩
                  subst hx1 hx2 hx3
                  clear e2
                  have s1 : wr.cell? ⟨sb, 1, none⟩ = some (.slice (some ⟨g2, 0, none⟩) k cap2) := HA.out.sbx.cell rfl
                  have hA2 := HA.out.put hu hv2
                  have hr1 := (HA.out.sm.row _ hu).1
                  have hr2 := HA.out.rlt _ hu
                  have hr3 := HA.out.lo
                  have q1 : (((O.getD pp 0 : Nat) : Int) != ((O.getD q 0 : Nat) : Int)) = true := by simp only [bne_iff_ne, ne_eq]; omega
                  generalize O.getD pp 0 = u at *
                  generalize O.getD q 0 = vv at *
                  have U0 : (0 : Int) ≤ ((u : Nat) : Int) := by omega
                  have U1 : ((u : Nat) : Int) < ((k : Nat) : Int) := by omega
                  have V0 : (0 : Int) ≤ ((vv : Nat) : Int) := by omega
                  have V1 : ((vv : Nat) : Int) < ((k : Nat) : Int) := by omega
                  clear hF hX HS hOO
                  go_wp2_with fail
                  go_quiet (fail)
                  go_wp2_with fail
                  have s1' : (wr.drewN nq).cell? ⟨sb, 1, none⟩ = some (.slice (some ⟨g2, 0, none⟩) k cap2) := s1
                  have o1' : (wr.drewN nq).cell? ⟨cb + 1, pp, none⟩ = some (.int .i64 ((u : Nat) : Int)) := o1
                  have o2' : (wr.drewN nq).cell? ⟨cb + 1, q, none⟩ = some (.int .i64 ((vv : Nat) : Int)) := o2
                  have t4' : (wr.drewN nq).cell? ⟨g2, u, none⟩ = some (hdr k (rb2 u)) := t4
                  have t5' : (wr.drewN nq).cell? ⟨rb2 u, vv, none⟩ = some (.bool (S u vv)) := t5
                  have t6' : (wr.drewN nq).frozen? ⟨rb2 u, vv, none⟩ = false := t6
                  have hAq := HA.out.step (below_drewN (Below.refl wr.heap.size wr) nq)
                  clear s1 o1 o2 t4 t5 t6 hA2 b0 b1 m4 m5 HA t7
                  generalize wr.drewN nq = wD at *
                  have y1 : ((wD.setCell ⟨rb2 u, vv, none⟩ (.bool true)).drew).cell? ⟨sb, 1, none⟩ = some (.slice (some ⟨g2, 0, none⟩) k cap2) := (World.cell?_setCell_far wD ⟨rb2 u, vv, none⟩ ⟨sb, 1, none⟩ _ (by show rb2 u ≠ sb; omega)).trans s1'
                  have y2 : ((wD.setCell ⟨rb2 u, vv, none⟩ (.bool true)).drew).cell? ⟨cb + 1, pp, none⟩ = some (.int .i64 ((u : Nat) : Int)) := (World.cell?_setCell_far wD ⟨rb2 u, vv, none⟩ ⟨cb + 1, pp, none⟩ _ (by show rb2 u ≠ cb + 1; omega)).trans o1'
                  have y3 : ((wD.setCell ⟨rb2 u, vv, none⟩ (.bool true)).drew).cell? ⟨cb + 1, q, none⟩ = some (.int .i64 ((vv : Nat) : Int)) := (World.cell?_setCell_far wD ⟨rb2 u, vv, none⟩ ⟨cb + 1, q, none⟩ _ (by show rb2 u ≠ cb + 1; omega)).trans o2'
                  have y4 : ((wD.setCell ⟨rb2 u, vv, none⟩ (.bool true)).drew).cell? ⟨g2, u, none⟩ = some (hdr k (rb2 u)) := (World.cell?_setCell_far wD ⟨rb2 u, vv, none⟩ ⟨g2, u, none⟩ _ t3).trans t4'
                  have HY := hid_of (And.intro y1 (And.intro y2 (And.intro y3 y4)))
                  have HA3 := hid_of ((hAq.put hu hv2).step (Below.refl _ _).drew)
                  clear y1 y2 y3 y4 hAq
                  go_region_held3 (fun w' => w'.cell? ⟨sb, 1, none⟩ = some (.slice (some ⟨g2, 0, none⟩) k cap2) ∧ w'.cell? ⟨cb + 1, pp, none⟩ = some (.int .i64 ((u : Nat) : Int)) ∧ w'.cell? ⟨cb + 1, q, none⟩ = some (.int .i64 ((vv : Nat) : Int)) ∧ w'.cell? ⟨g2, u, none⟩ = some (hdr k (rb2 u))) (first | assumption | exact ⟨s1', o1', o2', t4'⟩ | exact HY.out) (fail)
                  rename_i hHeld
                  clear hHeld
                  go_wp2_with fail
                  go_roundg (k - (q + 1))
                  case measure => have := HQF.out; omega
                  case rel => exact ⟨q + 1, _, by go_num, by omega, by have := HQF.out; rw [Hid]; omega, HA3.out, HS2.out⟩
            · obtain rfl : q = k := by omega
              have HS2 := hid_of HS.out.row
              go_wp2_with fail
              go_roundg (q - (pp + 1))
              case measure => have := HPF.out; omega
              case rel => exact ⟨pp + 1, S, by go_num, by omega, by have := HPF.out; rw [Hid]; omega, HA.out, HS2.out⟩
        · obtain rfl : pp = k := by omega
          have hSm : RefM lo2 wr (.slice x2 y2 z2) pp pp rb2 (smV pp F O) := HA.out.sm.congr (fun u v _ _ => HS.out.done u v)
          have hG3 : P3 w wr pp (.slice x y z) (cb + 1) O sb lo2 (.slice x2 y2 z2) rb2 (smV pp F O) := ⟨HA.out.below, HA.out.box, HA.out.of_, HA.out.olo, hSm, HA.out.sbx, HA.out.lo, HA.out.rlt, HA.out.mlt⟩
          have hsbl : sb < wr.heap.size := HA.out.sbx.lt
          have hbA := (Below.refl wr.heap.size wr).alloc (Nat.le_refl _) (.cells (arrB (List.replicate pp false)) 4)
          have hG5 : P5 w (wr.alloc (.cells (arrB (List.replicate pp false)) 4)) pp (.slice x y z) (cb + 1) O sb lo2 (.slice x2 y2 z2) rb2 (smV pp F O) wr.heap.size (doneL pp []) (.slice none 0 0) [] [] := by
            refine ⟨hG3.step hbA, ?_, ClR.nil _ _, hsbl⟩
            rw [doneL_nil]
            exact Blk.new wr _ _
          have HG5 := hid_of hG5
          clear hG3 hSm hG5 HA HS hbA
          go_wp2_with fail
          generalize (wr.alloc (.cells (arrB (List.replicate pp false)) 4)) = wC at *
          generalize wr.heap.size = db at *
          clear b0
          go_loopg [11] (fsts pp O).length (fun f vl wq => ∃ (pts : List Nat) (vs : List Value), Hid (pts.length + f = (fsts pp O).length) ∧ Hid (SrtAt (betw L (clsK (bothE (cloB L)) L.length)) pts.length pts) ∧ Hid (P5 w wq pp (.slice x y z) (cb + 1) O sb lo2 (.slice x2 y2 z2) rb2 (smV pp F O) db (doneL pp (lastU (fsts pp O) pts)) vl vs ((pts.map (fun i => (clsK (bothE (cloB L)) L.length).getD i [])).map toI)))
          case atStart => exact ⟨[], [], Nat.zero_add _, SrtAt.begin _, HG5.out⟩
          case round =>
            clear HG5
            obtain ⟨pts, vs, HPF, HSR, HA⟩ := hrel
            have b0 : wr.cell? ⟨w.heap.size, 0, none⟩ = some (.int .i64 ((pp : Nat) : Int)) := HA.out.g.box.cell rfl
            obtain ⟨va, vcap, rfl⟩ := owns_len HA.out.cl.own
            have HVL : Hid (vs.length = pts.length) := by have := HA.out.cl.rows.len; rw [Hid]; simpa using this
            have HUO : Hid (Units L.length (clsK (bothE (cloB L)) L.length) O) := by
              have h1 := HUn.out
              have h2 := HO.out
              rw [HLn.out] at h2
              rw [h2] at h1
              exact h1
            have HBL : Hid ((betw L (clsK (bothE (cloB L)) L.length)).length = (fsts L.length O).length) := by rw [Hid, betw_length, HUO.out.len]
            have HPT : Hid (∀ i ∈ pts, i < (fsts L.length O).length) := fun i hi => by rw [← HBL.out]; exact HSR.out.lt i hi
            have hfl : (fsts pp O).length ≤ pp := by
              have := List.length_filter_le (fun p => O.getD p 0 == p) (List.range pp)
              rw [List.length_range] at this
              exact this
            obtain ⟨ls, HLS⟩ : ∃ ls, Hid (ls = lastU (fsts pp O) pts) := ⟨_, rfl⟩
            rw [← HLS.out] at HA
            go_wp2_with fail
            clear b0
            go_loopg [12, 13] pp (fun f nx i wq => ∃ (q : Nat) (nv : Int), nx = .int .i64 nv ∧ i = .int .i64 (((q : Nat) : Int) - 1) ∧ q ≤ pp ∧ Hid (q = f) ∧ Hid (LeastP (fun p => O.getD p 0 == p && freeF pp (smV pp F O) (doneL pp ls) p) pp q nv) ∧ Hid (P5 w wq pp (.slice x y z) (cb + 1) O sb lo2 (.slice x2 y2 z2) rb2 (smV pp F O) db (doneL pp ls) (.slice va vs.length vcap) vs ((pts.map (fun i => (clsK (bothE (cloB L)) L.length).getD i [])).map toI)))
            case atStart => exact ⟨pp, -1, rfl, rfl, Nat.le_refl _, rfl, LeastP.start _ _, HA.out⟩
            case round =>
              clear HA
              obtain ⟨q, nv, rfl, rfl, hq, HQF, HLP, HA⟩ := hrel
              by_cases hq0 : 0 < q
              · obtain ⟨q', rfl⟩ : ∃ q', q = q' + 1 := ⟨q - 1, by omega⟩
                have eq1 : (((q' + 1 : Nat) : Int)) - 1 = ((q' : Nat) : Int) := by omega
                rw [eq1]
                have g0 : (0 : Int) ≤ ((q' : Nat) : Int) := by omega
                have g1 : ((q' : Nat) : Int) < ((pp : Nat) : Int) := by omega
                have oc := cellI_getD HA.out.g.of_ (i := q') (by rw [toI_length, HOL.out]; omega)
                rw [toI_getD] at oc
                by_cases hO : O.getD q' 0 = q'
                · rw [hO] at oc
                  have o1 : (((q' : Nat) : Int) == ((q' : Nat) : Int)) = true := by simp
                  have s0 : wr.cell? ⟨sb, 0, none⟩ = some (.int .i64 ((pp : Nat) : Int)) := HA.out.g.sbx.cell rfl
                  have s1 : wr.cell? ⟨sb, 1, none⟩ = some (.slice x2 y2 z2) := HA.out.g.sbx.cell rfl
                  have hf := r2free_calls lo2 pp hn x2 y2 z2 rb2 (smV pp F O) (doneL pp ls) db q' wr HA.out.g.sm HA.out.don (doneL_length _ _) (by omega)
                  cases hfr : freeF pp (smV pp F O) (doneL pp ls) q'
                  · rw [hfr] at hf
                    have HL2 := hid_of (HLP.out.no (by rw [hfr, Bool.and_false]))
                    clear hfr hO
                    go_wp2_with fail
                    refine hf.mono ?_
                    rintro e w3 ⟨rfl, hB3⟩
                    have hA3 := HA.out.step hB3
                    clear hf oc s0 s1
                    go_wp2_with fail
                    go_roundg q'
                    case measure => have := HQF.out; omega
                    case rel => exact ⟨q', nv, rfl, by go_num, by omega, rfl, HL2.out, hA3⟩
                  · rw [hfr] at hf
                    have HL2 : Hid (LeastP (fun p => O.getD p 0 == p && freeF pp (smV pp F O) (doneL pp ls) p) pp q' ((q' : Nat) : Int)) := LeastP.yes (by omega) (by rw [hfr, hO, beq_self_eq_true]; rfl)
                    clear hfr hO
                    go_wp2_with fail
                    refine hf.mono ?_
                    rintro e w3 ⟨rfl, hB3⟩
                    have hA3 := HA.out.step hB3
                    clear hf oc s0 s1
                    go_wp2_with fail
                    go_roundg q'
                    case measure => have := HQF.out; omega
                    case rel => exact ⟨q', ((q' : Nat) : Int), rfl, by go_num, by omega, rfl, HL2.out, hA3⟩
                · have o1 : (((O.getD q' 0 : Nat) : Int) == ((q' : Nat) : Int)) = false := by rw [beq_eq_false_iff_ne]; omega
                  have HL2 := hid_of (HLP.out.no (by rw [show (O.getD q' 0 == q') = false by rw [beq_eq_false_iff_ne]; exact hO]; rfl))
                  generalize O.getD q' 0 = ov at *
                  clear hO
                  go_wp2_with fail
                  go_roundg q'
                  case measure => have := HQF.out; omega
                  case rel => exact ⟨q', nv, rfl, by go_num, by omega, rfl, HL2.out, HA.out⟩
              · obtain rfl : q = 0 := by omega
                have hm1 : ¬ (0 : Int) ≤ ((0 : Nat) : Int) - 1 := by omega
                have HLF : Hid ((nv = -1 ∧ fz (wAll (betw L (clsK (bothE (cloB L)) L.length)).length (pairsL (betw L (clsK (bothE (cloB L)) L.length))) pts) < 0) ∨ (∃ (j u : Nat), nv = (u : Int) ∧ (fsts L.length O)[j]? = some u ∧ fz (wAll (betw L (clsK (bothE (cloB L)) L.length)).length (pairsL (betw L (clsK (bothE (cloB L)) L.length))) pts) = (j : Int))) := by
                  have hpL := HLn.out
                  have hh := HLP.out
                  have h3 := HLS.out
                  rw [h3, hpL] at hh
                  exact HUO.out.least HT.out (by omega) HLW.out HPT.out hh
                have hlo1 := HA.out.g.olo
                have hlo2 := HA.out.g.lo
                have hlo3 := HA.out.lo
                by_cases hneg : nv < 0
                · have HEQ : Hid (compsL L = pts.map (fun i => (clsK (bothE (cloB L)) L.length).getD i [])) := by
                    rcases HLF.out with ⟨_, h2⟩ | ⟨j, u, h1, _⟩
                    · rw [Hid]
                      unfold compsL sbOf
                      rw [HSR.out.over h2]
                    · omega
                  clear HLF HLP
                  go_wp2_with fail
                  go_ret
                  refine ⟨_, rfl, ⟨vs, ?_⟩, HA.out.g.below⟩
                  rw [HEQ.out]
                  exact HA.out.cl.lo (by omega)
                · obtain ⟨j, u, HNU, HJ, HFZ⟩ : ∃ j u : Nat, Hid (nv = (u : Int)) ∧ Hid ((fsts L.length O)[j]? = some u) ∧ Hid (fz (wAll (betw L (clsK (bothE (cloB L)) L.length)).length (pairsL (betw L (clsK (bothE (cloB L)) L.length))) pts) = (j : Int)) := by
                    rcases HLF.out with ⟨h1, _⟩ | h1
                    · omega
                    · exact h1
                  obtain rfl := HNU.out
                  have hup : u < pp := by rw [HLn.out]; exact (fsts_mem.1 (List.mem_of_getElem? HJ.out)).1
                  have HJN := hid_of (fz_new HFZ.out)
                  have HSR2 : Hid (SrtAt (betw L (clsK (bothE (cloB L)) L.length)) (pts ++ [j]).length (pts ++ [j])) := by
                    have h1 := HJN.out
                    have h2 := sub_len (j :: pts) (List.range (betw L (clsK (bothE (cloB L)) L.length)).length) (List.nodup_cons.2 ⟨h1.2, HSR.out.nodup⟩) (fun i hi => by
                      rcases List.mem_cons.1 hi with rfl | hi
                      · exact List.mem_range.2 h1.1
                      · exact List.mem_range.2 (HSR.out.lt i hi))
                    rw [List.length_range, List.length_cons] at h2
                    have := HSR.out.next (by omega) HFZ.out
                    rw [List.length_append]
                    exact this
                  have HLA : Hid (lastU (fsts pp O) (pts ++ [j]) = ls ++ [u]) := by
                    rw [Hid, lastU_snoc, ← HLS.out, HLn.out]
                    congr 2
                    rw [List.getD_eq_getElem?_getD, HJ.out]
                    rfl
                  have HCU : Hid ((clsK (bothE (cloB L)) L.length).getD j [] = ofU O u pp) := by
                    have h1 := HO.out
                    have h2 := HJ.out
                    have hpL := HLn.out
                    rw [hpL] at h1
                    rw [Hid, hpL, ← h1, ofU_cl]
                    rw [← h1, offs_fsts] at h2
                    unfold clsK
                    rw [List.getD_eq_getElem?_getD, List.getElem?_map, h2]
                    rfl
                  have hptl : pts.length < pp := by
                    have h1 := HPF.out
                    have h2 := HSR2.out.le
                    rw [List.length_append, HBL.out, ← HLn.out] at h2
                    simp at h2
                    omega
                  have U0 : (0 : Int) ≤ ((u : Nat) : Int) := by omega
                  have U1 : ((u : Nat) : Int) < ((pp : Nat) : Int) := by omega
                  have d0 := arrB_cell HA.out.don (i := u) (by rw [doneL_length]; exact hup)
                  have f0 := HA.out.don.frozen u
                  have hA1 := HA.out.mark u
                  rw [doneL_set] at hA1
                  have hneg' : ¬ ((u : Nat) : Int) < 0 := by omega
                  generalize (doneL pp ls).getD u false = dv at *
                  have HA1 := hid_of hA1
                  clear HLP HLF HFZ HJ HSR HJN HNU hA1 HA HLS
                  go_wp2_with fail
                  generalize wr.setCell ⟨db, u, none⟩ (.bool true) = W1 at *
                  clear d0 f0
                  have hdl : db < W1.heap.size := HA1.out.don.lt
                  go_loopg [14, 15] pp (fun f lv i wq => ∃ k : Nat, i = .int .i64 ((k : Nat) : Int) ∧ k ≤ pp ∧ Hid (k + f = pp) ∧ Hid (wq.ownsRow W1.heap.size 3 1 lv (toI (ofU O u k)).length (encJ (toI (ofU O u k)))) ∧ Hid (Below W1.heap.size W1 wq))
                  case atStart => exact ⟨0, rfl, Nat.zero_le _, Nat.zero_add _, World.ownsRow_nil _ _ _ _, Below.refl _ _⟩
                  case round =>
                    obtain ⟨k, rfl, hk, HKF2, HLO, HBQ⟩ := hrel
                    have hA := HA1.out.step HBQ.out
                    have b0 : wr.cell? ⟨w.heap.size, 0, none⟩ = some (.int .i64 ((pp : Nat) : Int)) := hA.g.box.cell rfl
                    have hul := ofU_len O u k
                    have hWl := HBQ.out.size
                    obtain ⟨la, lcap, rfl⟩ := owns_len HLO.out
                    rw [toI_length] at HLO
                    by_cases hlt : k < pp
                    · have K0 : (0 : Int) ≤ ((k : Nat) : Int) := by omega
                      have K1 : ((k : Nat) : Int) < ((pp : Nat) : Int) := by omega
                      have oc := cellI_getD hA.g.of_ (i := k) (by rw [toI_length, HOL.out]; omega)
                      rw [toI_getD] at oc
                      by_cases hO : O.getD k 0 = u
                      · rw [hO] at oc
                        have q1 : (((u : Nat) : Int) == ((u : Nat) : Int)) = true := by simp
                        have HE := hid_of (ofU_yes hO)
                        clear hO hA
                        generalize ofU O u k = lu at *
                        rw [toI_length]
                        go_wp2_with (at_builtin; refine wpList_append_own_at _ rfl _ _ 29 rfl W1.heap.size 3 i0 (.int .i64 0) 1 8 Tryd.underlying29 hi hz0 hz1 hz2 rfl (by decide) (.slice la lu.length lcap) lu.length (encJ (toI lu)) rfl (HLO.out.alloc _) ⟨_, 0, none⟩ 1 1 [.int .i64 ((k : Nat) : Int)] rfl rfl (news_int wr k) (by simp [Value.oneCell']) (by unfold maxLen; omega) (by omega) (by simp; omega) ?_; intro v2 w5 hown' hgrow _ _)
                        have hb5 : Below W1.heap.size W1 w5 := (HBQ.out.alloc HBQ.out.size _).grown hgrow (by simp; omega) (fun q e => (HLO.out.lt q e).1)
                        go_roundg (pp - (k + 1))
                        case measure => have := HKF2.out; omega
                        case rel =>
                          refine ⟨k + 1, by go_num, by omega, by have := HKF2.out; rw [Hid]; omega, ?_, hb5⟩
                          rw [Hid, HE.out, ← encN_toI, toI_length, List.length_append]
                          exact hown'
                      · have q1 : (((O.getD k 0 : Nat) : Int) == ((u : Nat) : Int)) = false := by rw [beq_eq_false_iff_ne]; omega
                        have HE := hid_of (ofU_no hO)
                        generalize O.getD k 0 = ov at *
                        clear hO hA
                        rw [toI_length]
                        go_wp2_with fail
                        go_roundg (pp - (k + 1))
                        case measure => have := HKF2.out; omega
                        case rel =>
                          refine ⟨k + 1, by go_num, by omega, by have := HKF2.out; rw [Hid]; omega, ?_, HBQ.out⟩
                          rw [Hid, HE.out, toI_length]
                          exact HLO.out
                    · obtain rfl : k = pp := by omega
                      have HA5 := hid_of hA
                      have hvsl : vs.length < k := by have := HVL.out; omega
                      have hnw := cell_one_new wr (.slice la (ofU O u k).length lcap) 29
                      have HNW := hid_of hnw
                      clear hA hnw
                      rw [toI_length]
                      generalize hlu : ofU O u k = lu at *
                      have HLU := hid_of hlu
                      clear hlu
                      go_wp2_with (at_builtin; refine wpList_append_own_at _ rfl _ _ 25 rfl (db + 1) 29 i1 (.slice none 0 0) 1 24 Tryd.underlying25 hj hy0 hy1 hy2 rfl (by decide) (.slice va vs.length vcap) vs.length vs rfl (HA5.out.cl.own.alloc _) ⟨_, 0, none⟩ 1 1 [.slice la lu.length lcap] rfl rfl HNW.out (by simp [Value.oneCell']) (by unfold maxLen; omega) (by omega) (by simp; omega) ?_; intro v2 w5 hown' hgrow _ _)
                      have hA6 := HA5.out.more (l := toI lu) (N0 := W1.heap.size) (by omega) (fun i y g hy hg => (HA1.out.cl.rows.lt hy hg).2) (by rw [toI_length]; exact HLO.out) hown' hgrow
                      go_roundg ((fsts k O).length - (pts.length + 1))
                      case measure => have := HPF.out; have h2 := HSR2.out.le; rw [List.length_append, HBL.out, ← HLn.out] at h2; simp at h2; omega
                      case rel =>
                        refine ⟨pts ++ [j], vs ++ [.slice la lu.length lcap], ?_, HSR2.out, ?_⟩
                        · have := HPF.out; have h2 := HSR2.out.le; rw [List.length_append, HBL.out, ← HLn.out] at h2; simp at h2; rw [Hid, List.length_append]; simp; omega
                        · rw [Hid, HLA.out, List.map_append, List.map_append]
                          have e : ([j].map (fun i => (clsK (bothE (cloB L)) L.length).getD i [])).map toI = [toI lu] := by
                            show [toI ((clsK (bothE (cloB L)) L.length).getD j [])] = _
                            rw [HCU.out]
                          rw [e]
                          exact hA6
end Go.Proofs.YtmmgdeoballhpaaDoor
/- The contract of the reference's Reduction; sextantlaw2.lists at two lists that are alike. -/
namespace Go.Proofs.YtmmgdeoballhpaaDoor
open Go.RowKit Go.Shelf Sx

/-- What the reference's Reduction has. -/
def redF (n : Nat) (F : Nat → Nat → Bool) : Nat → Nat → Bool := fun p q => extF n (plusFn F n) p q && !extF n (cmpF (extF n (plusFn F n)) (extF n (plusFn F n)) n) p q
set_option maxRecDepth 100000 in
set_option maxHeartbeats 4000000 in
theorem r2red_no (lo n : Nat) (hn : n ≤ 256) (x : Option Addr) (y z : Nat) (rb : Nat → Nat) (F : Nat → Nat → Bool) (w : World) (h : RefM lo w (.slice x y z) n n rb F) (HI : Hid (irrF n (plusFn F n) = false)) :
    Calls Tryd.prog 29 #[.agg #[.int .i64 ((n : Nat) : Int), .slice x y z]] w fun e w' => ∃ xr yr zr, e = .returned (.tuple #[.agg #[.int .i64 0, .slice xr yr zr], .int .i64 3]) ∧ Below w.heap.size w w' := by
  have hB0 : Below w.heap.size w ((w.alloc (.cells #[.int .i64 ((n : Nat) : Int), .slice x y z] 46)).alloc (.cells #[.int .i64 0, .slice none 0 0] 46)) := ((Below.refl _ w).alloc (Nat.le_refl _) _).alloc (by simp) _
  have hb0 := (Blk.new w 46 #[.int .i64 ((n : Nat) : Int), .slice x y z]).alloc (.cells #[.int .i64 0, .slice none 0 0] 46)
  have hr0 := Blk.new2 w (.cells #[.int .i64 ((n : Nat) : Int), .slice x y z] 46) 46 #[.int .i64 0, .slice none 0 0]
  have hpl := refPlus_calls lo n hn x y z rb F _ ((h.alloc (.cells #[.int .i64 ((n : Nat) : Int), .slice x y z] 46)).alloc (.cells #[.int .i64 0, .slice none 0 0] 46))
  go_enter Tryd.func29, Tryd.ntmps29
  have c0 := hb0.cell (j := 0) rfl
  have c1 := hb0.cell (j := 1) rfl
  go_wp2_with fail
  refine hpl.mono ?_
  rintro e w1 ⟨M1, rb1, rfl, hM1, hB1⟩
  obtain ⟨x1, y1, z1, rfl⟩ := hM1.slice
  have hW1 := below_step hB0 hB0.size hB1
  have hr1 := (hr0.of_below hB1).alloc (.cells #[.int .i64 ((n : Nat) : Int), .slice x1 y1 z1] 46)
  have hbx := Blk.new w1 46 #[.int .i64 ((n : Nat) : Int), .slice x1 y1 z1]
  have hM1a := hM1.alloc (.cells #[.int .i64 ((n : Nat) : Int), .slice x1 y1 z1] 46)
  have hW1a := hW1.alloc hW1.size (.cells #[.int .i64 ((n : Nat) : Int), .slice x1 y1 z1] 46)
  have e0 := hbx.cell (j := 0) rfl
  have e1 := hbx.cell (j := 1) rfl
  clear hpl hb0 hr0 hB0 c0 c1 hM1 hB1 hW1
  go_wp2_with fail
  refine (refIrr_calls _ n hn x1 y1 z1 rb1 (plusFn F n) _ hM1a false HI).mono ?_
  rintro e w3 ⟨rfl, hB3⟩
  have hr3 := hr1.of_below hB3
  have hW3 := below_step hW1a hW1a.size hB3
  have hrn := refNew_calls 0 w3
  rw [show clampN 0 = 0 from rfl] at hrn
  have HRN := hid_of hrn
  clear hrn e0 e1 hbx hr1 hW1a hM1a hB3
  go_wp2_with fail
  refine HRN.out.mono ?_
  rintro e w4 ⟨M4, rb4, rfl, hM4, hB4⟩
  obtain ⟨x4, y4, z4, rfl⟩ := hM4.slice
  have hr4 := hr3.of_below hB4
  have d0 := hr4.cell (j := 0) rfl
  have d1 := hr4.cell (j := 1) rfl
  have f0 := hr4.frozen 0
  have f1 := hr4.frozen 1
  have hW4 := below_step hW3 hW3.size hB4
  clear HRN hr3 hM4 hB4 hW3
  go_wp2_with fail
  have hres := (hr4.set 0 (.int .i64 0)).set 1 (.slice x4 y4 z4)
  simp only [List.setIfInBounds_toArray, List.set_cons_zero, List.set_cons_succ] at hres
  (try simp only [Exit.inBlock, Exit.then])
  refine bodyPost_ret (ret_ref2 rfl rfl rfl hres) rfl ?_
  exact ⟨x4, y4, z4, rfl, (hW4.setCell (p := ⟨w.heap.size + 1, 0, none⟩) (by simp) _).setCell (p := ⟨w.heap.size + 1, 1, none⟩) (by simp) _⟩
set_option maxRecDepth 100000 in
set_option maxHeartbeats 4000000 in
theorem r2red_yes (lo n : Nat) (hn : n ≤ 256) (x : Option Addr) (y z : Nat) (rb : Nat → Nat) (F : Nat → Nat → Bool) (w : World) (h : RefM lo w (.slice x y z) n n rb F) (HI : Hid (irrF n (plusFn F n) = true)) :
    Calls Tryd.prog 29 #[.agg #[.int .i64 ((n : Nat) : Int), .slice x y z]] w fun e w' => ∃ M rb', e = .returned (.tuple #[.agg #[.int .i64 ((n : Nat) : Int), M], .int .i64 0]) ∧ RefM (w.heap.size + 2) w' M n n rb' (redF n F) ∧ Below w.heap.size w w' := by
  have HN : Hid (n = max n n) := by show _ = _; omega
  have hB0 : Below w.heap.size w ((w.alloc (.cells #[.int .i64 ((n : Nat) : Int), .slice x y z] 46)).alloc (.cells #[.int .i64 0, .slice none 0 0] 46)) := ((Below.refl _ w).alloc (Nat.le_refl _) _).alloc (by simp) _
  have hb0 := (Blk.new w 46 #[.int .i64 ((n : Nat) : Int), .slice x y z]).alloc (.cells #[.int .i64 0, .slice none 0 0] 46)
  have hr0 := Blk.new2 w (.cells #[.int .i64 ((n : Nat) : Int), .slice x y z] 46) 46 #[.int .i64 0, .slice none 0 0]
  have hpl := refPlus_calls lo n hn x y z rb F _ ((h.alloc (.cells #[.int .i64 ((n : Nat) : Int), .slice x y z] 46)).alloc (.cells #[.int .i64 0, .slice none 0 0] 46))
  go_enter Tryd.func29, Tryd.ntmps29
  have c0 := hb0.cell (j := 0) rfl
  have c1 := hb0.cell (j := 1) rfl
  go_wp2_with fail
  refine hpl.mono ?_
  rintro e w1 ⟨M1, rb1, rfl, hM1, hB1⟩
  obtain ⟨x1, y1, z1, rfl⟩ := hM1.slice
  have hW1 := below_step hB0 hB0.size hB1
  have hr1 := (hr0.of_below hB1).alloc (.cells #[.int .i64 ((n : Nat) : Int), .slice x1 y1 z1] 46)
  have hbx := Blk.new w1 46 #[.int .i64 ((n : Nat) : Int), .slice x1 y1 z1]
  have hM1a := hM1.alloc (.cells #[.int .i64 ((n : Nat) : Int), .slice x1 y1 z1] 46)
  have hW1a := hW1.alloc hW1.size (.cells #[.int .i64 ((n : Nat) : Int), .slice x1 y1 z1] 46)
  have e0 := hbx.cell (j := 0) rfl
  have e1 := hbx.cell (j := 1) rfl
  have hcb : w.heap.size + 2 ≤ w1.heap.size := by have := hB1.size; simp at this; omega
  clear hpl hb0 hr0 hB0 c0 c1 hM1 hB1 hW1
  go_wp2_with fail
  refine (refIrr_calls _ n hn x1 y1 z1 rb1 (plusFn F n) _ hM1a true HI).mono ?_
  rintro e w3 ⟨rfl, hB3⟩
  have hr3 := hr1.of_below hB3
  have hb3 := hbx.of_below hB3
  have hM3 := (hM1a.mono (Nat.zero_le _)).below hB3
  have hW3 := below_step hW1a hW1a.size hB3
  have g0 := hb3.cell (j := 0) rfl
  have g1 := hb3.cell (j := 1) rfl
  have hsz : w.heap.size + 2 ≤ w3.heap.size := by have := hr3.lt; omega
  clear e0 e1 hbx hr1 hW1a hM1a hB3
  generalize w1.heap.size = cb at *
  have HM3 := hid_of hM3
  have HR3 := hid_of hr3
  have HB3 := hid_of hb3
  clear hM3 hr3 hb3
  go_wp2_with fail
  go_region_held3 (fun W => W.cell? ⟨cb, 0, none⟩ = some (.int .i64 ((n : Nat) : Int)) ∧ W.cell? ⟨cb, 1, none⟩ = some (.slice x1 y1 z1)) (first | assumption | exact ⟨g0, g1⟩) (first | (go_at_call 58; refine (refComp_calls 0 0 n n n hn hn HN x1 y1 z1 rb1 (plusFn F n) x1 y1 z1 rb1 (plusFn F n) _ (HM3.out.below (Below.refl _ _).drew) (HM3.out.below (Below.refl _ _).drew)).mono ?_; rintro e w4 ⟨M4, rb4, rfl, hM4, hB4⟩; obtain ⟨x4, y4, z4, rfl⟩ := hM4.slice; have hX4 : Below w3.heap.size w3 w4 := below_of_drew' hB4; have HX4 := hid_of hX4; have K4 : w4.cell? ⟨cb, 0, none⟩ = some (.int .i64 ((n : Nat) : Int)) ∧ w4.cell? ⟨cb, 1, none⟩ = some (.slice x1 y1 z1) := ⟨(HB3.out.of_below hX4).cell rfl, (HB3.out.of_below hX4).cell rfl⟩) | (go_at_call 57; refine (refMinus_calls 0 _ n n n hn hn HN x1 y1 z1 rb1 (plusFn F n) x4 y4 z4 rb4 _ _ (HM3.out.below HX4.out) hM4).mono ?_; rintro e w5 ⟨M5, rb5, rfl, hM5, hB5⟩; obtain ⟨x5, y5, z5, rfl⟩ := hM5.slice; have hX5 := below_step HX4.out HX4.out.size hB5; have hr5 := HR3.out.of_below hX5; have d0 := hr5.cell (j := 0) rfl; have d1 := hr5.cell (j := 1) rfl; have f0 := hr5.frozen 0; have f1 := hr5.frozen 1; have K5 : w5.cell? ⟨cb, 0, none⟩ = some (.int .i64 ((n : Nat) : Int)) ∧ w5.cell? ⟨cb, 1, none⟩ = some (.slice x1 y1 z1) := ⟨(HB3.out.of_below hX5).cell rfl, (HB3.out.of_below hX5).cell rfl⟩; have hb6 := ((HB3.out.of_below hX5).setOther (a := ⟨w.heap.size + 1, 0, none⟩) (by show cb ≠ w.heap.size + 1; omega) (.int .i64 ((n : Nat) : Int))).setOther (a := ⟨w.heap.size + 1, 1, none⟩) (by show cb ≠ w.heap.size + 1; omega) (.slice x5 y5 z5); have K6 : ((w5.setCell ⟨w.heap.size + 1, 0, none⟩ (.int .i64 ((n : Nat) : Int))).setCell ⟨w.heap.size + 1, 1, none⟩ (.slice x5 y5 z5)).cell? ⟨cb, 0, none⟩ = some (.int .i64 ((n : Nat) : Int)) ∧ ((w5.setCell ⟨w.heap.size + 1, 0, none⟩ (.int .i64 ((n : Nat) : Int))).setCell ⟨w.heap.size + 1, 1, none⟩ (.slice x5 y5 z5)).cell? ⟨cb, 1, none⟩ = some (.slice x1 y1 z1) := ⟨hb6.cell rfl, hb6.cell rfl⟩))
  have hW5 := below_step hW3 hW3.size hX5
  have hsz4 : w.heap.size + 2 ≤ w4.heap.size := Nat.le_trans hsz HX4.out.size
  have hres := (hr5.set 0 (.int .i64 ((n : Nat) : Int))).set 1 (.slice x5 y5 z5)
  simp only [List.setIfInBounds_toArray, List.set_cons_zero, List.set_cons_succ] at hres
  have HRES := hid_of hres
  have hM6 : RefM (w.heap.size + 2) ((w5.setCell ⟨w.heap.size + 1, 0, none⟩ (.int .i64 ((n : Nat) : Int))).setCell ⟨w.heap.size + 1, 1, none⟩ (.slice x5 y5 z5)) (.slice x5 y5 z5) n n rb5 (redF n F) := by
    refine (hM5.mono hsz4).below' (fun k hk _ => ?_)
    rw [Below.heap_setCell _ _ _ _ (by show k ≠ w.heap.size + 1; omega), Below.heap_setCell _ _ _ _ (by show k ≠ w.heap.size + 1; omega)]
  have HM6 := hid_of hM6
  clear hM6 hres hM5 hM4 K4 K5 K6 d0 d1 f0 f1
  go_wp2_with fail
  (try simp only [Exit.inBlock, Exit.then])
  refine bodyPost_ret (ret_ref2 rfl rfl rfl HRES.out) rfl ?_
  have hB9 := (hW5.setCell (p := ⟨w.heap.size + 1, 0, none⟩) (by simp) (.int .i64 ((n : Nat) : Int))).setCell (p := ⟨w.heap.size + 1, 1, none⟩) (by simp) (.slice x5 y5 z5)
  first | exact ⟨_, rb5, rfl, HM6.out, hB9⟩ | exact ⟨_, rfl, ⟨rb5, HM6.out⟩, hB9⟩
set_option maxRecDepth 100000 in
set_option maxHeartbeats 2000000 in
/-- Two lists of lists that are alike. -/
theorem lists2_same (v1 v2 : Value) (bs : List (List Nat)) (w : World) (h1 : BlocksR w v1 bs) (h2 : BlocksR w v2 bs) (hm : bs.length ≤ 65536) (hm2 : ∀ bl ∈ bs, bl.length ≤ 65536) :
    Calls Tryd.prog 13 #[v1, v2] w fun e w' => e = .returned (.bool true) ∧ Below w.heap.size w w' := by
  have h1' := hid_of h1
  have h2' := hid_of h2
  obtain ⟨p1, c1, rfl, vs1, hl1, hv1, hr1⟩ := h1
  obtain ⟨p2, c2, rfl, vs2, hl2, hv2, hr2⟩ := h2
  have hn : ((bs.length : Int) != (bs.length : Int)) = false := by simp
  have HV1 := hid_of hv1
  have HV2 := hid_of hv2
  have HR1 := hid_of hr1
  have HR2 := hid_of hr2
  have HM2 := hid_of hm2
  have HL1 := hid_of hl1
  have HL2 := hid_of hl2
  clear hv1 hv2 hr1 hr2 hm2 hl1 hl2 h1' h2'
  go_enter Tryd.func13, Tryd.ntmps13
  go_wp2_with fail
  go_loopw [5] (fun i wr => ∃ k : Nat, k ≤ bs.length ∧ i = .int .i64 k ∧ Below w.heap.size w wr) (fun i _ => bs.length - (intOf i).toNat)
  case atStart => exact ⟨0, by omega, rfl, Below.refl _ _⟩
  case round =>
    obtain ⟨k, hk, rfl, hB⟩ := hrel
    by_cases hlt : k < bs.length
    · obtain ⟨s1, rfl, a1, a2⟩ := HV1.out (by omega)
      obtain ⟨s2, rfl, b1, b2⟩ := HV2.out (by omega)
      obtain ⟨x, hx⟩ : ∃ x, vs1[k]? = some x := ⟨_, List.getElem?_eq_getElem (by rw [HL1.out]; exact hlt)⟩
      obtain ⟨y, hy⟩ : ∃ x, vs2[k]? = some x := ⟨_, List.getElem?_eq_getElem (by rw [HL2.out]; exact hlt)⟩
      obtain ⟨bl, hbl⟩ : ∃ bl, bs[k]? = some bl := ⟨_, List.getElem?_eq_getElem hlt⟩
      have x0 := (hB.cell (p := ⟨s1, k, none⟩) a1).trans (a2 k x hx)
      have y0 := (hB.cell (p := ⟨s2, k, none⟩) b1).trans (b2 k y hy)
      have hbm := HM2.out bl (List.mem_of_getElem? hbl)
      have hix := HR1.out k x bl hx hbl
      have hiy := HR2.out k y bl hy hbl
      have hcall : ∀ W, Below w.heap.size w W → Calls Tryd.prog 20 #[x, y] W fun e w' => e = .returned (.bool true) ∧ Below W.heap.size W w' := fun W hW => by
        have := ints2_calls x y (toI bl) (toI bl) W (hix.below hW) (hiy.below hW) (by rw [toI_length]; omega)
        rw [show (toI bl == toI bl) = true by simp] at this
        exact this
      have HCL := hid_of hcall
      obtain ⟨xa, xc, rfl⟩ := hix.len
      obtain ⟨ya, yc, rfl⟩ := hiy.len
      have k0 : (0 : Int) ≤ ((k : Nat) : Int) := by omega
      have k1 : ((k : Nat) : Int) < ((bs.length : Nat) : Int) := by omega
      have HBW := hid_of hB
      clear hx hy hbl a2 b2 hix hiy hcall hbm
      generalize (toI bl).length = ll at *
      go_wp2_with fail
      go_region_held3 (fun W => W.cell? ⟨s1, k, none⟩ = some (.slice xa ll xc) ∧ W.cell? ⟨s2, k, none⟩ = some (.slice ya ll yc)) (first | assumption | exact ⟨x0, y0⟩) (first | (go_at_call 20; refine (HCL.out _ HBW.out.drew).mono ?_; rintro e w4 ⟨rfl, hB4⟩; have hX4 : Below w.heap.size w w4 := below_step HBW.out HBW.out.size (below_of_drew' hB4); have K4 : w4.cell? ⟨s1, k, none⟩ = some (.slice xa ll xc) ∧ w4.cell? ⟨s2, k, none⟩ = some (.slice ya ll yc) := ⟨(below_of_drew' hB4).cell (p := ⟨s1, k, none⟩) (World.block_lt_of_cell? _ _ x0) |>.trans x0, (below_of_drew' hB4).cell (p := ⟨s2, k, none⟩) (World.block_lt_of_cell? _ _ y0) |>.trans y0⟩))
      go_wp2_with fail
      refine ⟨⟨k + 1, by omega, by go_num, hX4⟩, by simp [intOf]; omega⟩
    · obtain rfl : k = bs.length := by omega
      go_wp2_with fail
      go_ret
      exact ⟨rfl, hB⟩
end Go.Proofs.YtmmgdeoballhpaaDoor
/- The contract of the reference's Linear. -/
namespace Go.Proofs.YtmmgdeoballhpaaDoor
open Go.RowKit Go.Shelf Sx

theorem below_drewN' {B : Nat} {a w : World} (h : Below B a w) (m : Nat) : Below B a (w.drewN m) := ⟨h.os, h.tape, h.output, h.size, h.block⟩
structure LnA (w W : World) (n : Nat) (A : Value) (pl : List Int) : Prop where
  below : Below w.heap.size w W
  pls : Blk W (w.heap.size + 1) 3 (intsA pl)
  box : Blk W w.heap.size 46 #[.int .i64 ((n : Nat) : Int), A]
theorem LnA.drewN {w W : World} {n : Nat} {A : Value} {pl : List Int} (h : LnA w W n A pl) (m : Nat) : LnA w (W.drewN m) n A pl := ⟨below_drewN' h.below m, h.pls, h.box⟩
set_option maxRecDepth 100000 in
set_option maxHeartbeats 4000000 in
theorem r2lin_calls (lo n : Nat) (hn : n ≤ 256) (x : Option Addr) (y z : Nat) (rb : Nat → Nat) (F : Nat → Nat → Bool) (v : Value) (l : List Int) (w : World) (h : RefM lo w (.slice x y z) n n rb F) (hv : IntsR w v l) :
    Calls Tryd.prog 23 #[.agg #[.int .i64 ((n : Nat) : Int), .slice x y z], v] w fun e w' => e = .returned (.bool (linR n F l)) ∧ Below w.heap.size w w' := by
  obtain ⟨p, cap, rfl, hp⟩ := intsR_form hv
  clear hv
  have hmk := make_ints n (by omega)
  have hb := Blk.new w 46 #[.int .i64 ((n : Nat) : Int), .slice x y z]
  have hbA := hb.alloc (.cells (intsA (List.replicate n 0)) 3)
  have hPA : Blk ((w.alloc (.cells #[.int .i64 ((n : Nat) : Int), .slice x y z] 46)).alloc (.cells (intsA (List.replicate n 0)) 3)) (w.heap.size + 1) 3 (intsA (List.replicate n 0)) := by have := Blk.new (w.alloc (.cells #[.int .i64 ((n : Nat) : Int), .slice x y z] 46)) 3 (intsA (List.replicate n 0)); rwa [World.size_alloc] at this
  have hB0 : Below w.heap.size w ((w.alloc (.cells #[.int .i64 ((n : Nat) : Int), .slice x y z] 46)).alloc (.cells (intsA (List.replicate n 0)) 3)) := ((Below.refl _ _).alloc (Nat.le_refl _) _).alloc (by simp) _
  have b0 := hbA.cell (j := 0) rfl
  by_cases hln : l.length = n
  · have e0 : putsF n l 0 (List.replicate n 0) = none → linR n F l = false := fun e => by simp [linR, e]
    have HE0 := hid_of e0
    have e1 : ∀ pl, putsF n l 0 (List.replicate n 0) = some pl → linR n F l = allR n F pl := fun pl e => by simp [linR, e, hln]
    have HE1 := hid_of e1
    clear e0 e1
    rw [hln]
    have hne : ((n : Int) != (n : Int)) = false := by simp
    have HLN := hid_of hln
    have HB := hid_of hB0
    have HbA := hid_of hbA
    have HPA := hid_of hPA
    clear hB0 hbA hPA hln
    go_enter Tryd.func23, Tryd.ntmps23
    go_wp2_with fail
    clear b0 hmk
    go_loopw [6] (fun i wr => ∃ (k : Nat) (pl : List Int), k ≤ n ∧ i = .int .i64 k ∧ pl.length = n ∧ Blk wr (w.heap.size + 1) 3 (intsA pl) ∧ Blk wr w.heap.size 46 #[.int .i64 ((n : Nat) : Int), .slice x y z] ∧ Hid (putsF n l 0 (List.replicate n 0) = putsF n (l.drop k) k pl) ∧ Below w.heap.size w wr) (fun i _ => n - (intOf i).toNat)
    case atStart => exact ⟨0, _, by omega, rfl, by simp, HPA.out, HbA.out, rfl, HB.out⟩
    case round =>
      obtain ⟨k, pl, hk, rfl, hpl, hP, hQ, HC, hBl⟩ := hrel
      have q0 := hQ.cell (j := 0) rfl
      by_cases hlt : k < n
      · obtain ⟨s, o, rfl, hs, hc⟩ := hp (by have := HLN.out; omega)
        obtain ⟨u, hx⟩ : ∃ u, l[k]? = some u := ⟨_, List.getElem?_eq_getElem (by have := HLN.out; omega)⟩
        have c0 := (hBl.cell (p := ⟨s, o + k, none⟩) hs).trans (hc k u hx)
        have HE : Hid (_ = _) := HC.out.trans (putsF_step hx)
        have k0 : (0 : Int) ≤ (k : Int) := by omega
        have k1 : (k : Int) < (n : Int) := by omega
        clear HC hx hc
        by_cases hneg : u < 0
        · have HI : Hid (inR n u = false) := by show _ = _; simp [inR]; omega
          go_wp2_with fail
          go_quiet (fail)
          go_wp2_with fail
          go_ret
          have := HE.out
          rw [HI.out, if_neg (by simp)] at this
          have hr : linR n F l = false := HE0.out this
          exact ⟨by rw [hr]; rfl, below_drewN' hBl _⟩
        · have hneg2 : decide (u < 0) = false := by simpa using hneg
          by_cases hge : (n : Int) ≤ u
          · have HI : Hid (inR n u = false) := by show _ = _; simp [inR]; omega
            go_wp2_with fail
            go_quiet (fail)
            go_wp2_with fail
            go_ret
            have := HE.out
            rw [HI.out, if_neg (by simp)] at this
            have hr : linR n F l = false := HE0.out this
            exact ⟨by rw [hr]; rfl, below_drewN' hBl _⟩
          · have hi : inR n u = true := by simp [inR]; omega
            obtain ⟨j, rfl, hj⟩ := inR_true hi
            rw [hi] at HE
            clear hi
            have hge2 : ¬ n ≤ j := by omega
            have hge3 : decide ((n : Int) ≤ (j : Int)) = false := by simp; omega
            have hge4 : decide (n ≤ j) = false := by simp; omega
            clear hge
            have hj2 : j < pl.length := by omega
            have d0 := hP.cellI (List.getElem?_eq_getElem hj2)
            have f0 := hP.frozen j
            have j0 : (0 : Int) ≤ (j : Int) := by omega
            have j1 : (j : Int) < (n : Int) := by omega
            have HG : Hid (pl.getD (((j : Nat) : Int)).toNat 0 = pl[j]) := by show _ = _; simp [List.getD, hj2]
            cases hz : (pl[j] != 0)
            · have HZ : Hid (pl[j] = 0) := by show _ = _; simpa using hz
              generalize pl[j] = yy at *
              go_wp2_with fail
              go_quiet (fail)
              go_wp2_with fail
              refine ⟨⟨k + 1, pl.set j ((k : Int) + 1), by omega, by go_num, by simpa using hpl, (hP.drewN _).setI _ _, (hQ.drewN _).setOther (by simp) _, ?_, (below_drewN' hBl _).setCell (by simp) _⟩, by simp [intOf]; omega⟩
              have := HE.out
              rw [if_pos ⟨by trivial, HG.out.trans HZ.out⟩] at this
              exact this
            · have HZ : Hid (¬ pl[j] = 0) := by show ¬ _; simpa using hz
              generalize pl[j] = yy at *
              go_wp2_with fail
              go_quiet (fail)
              go_wp2_with fail
              go_ret
              have := HE.out
              rw [if_neg (fun h => HZ.out (HG.out.symm.trans h.2))] at this
              have hr : linR n F l = false := HE0.out this
              exact ⟨by rw [hr]; rfl, below_drewN' hBl _⟩
      · have e1 := HC.out
        rw [List.drop_eq_nil_of_le (by have := HLN.out; omega), show putsF n [] k pl = some pl from rfl] at e1
        have hr : linR n F l = allR n F pl := HE1.out pl e1
        have HLR := hid_of hr
        clear e1 HC HE0 HE1 hr
        obtain ⟨r, HR⟩ : ∃ r, Hid (allR n F pl = r) := ⟨_, rfl⟩
        go_wp2_with fail
        go_loopw [7] (fun i wr2 => ∃ a : Nat, a ≤ n ∧ i = .int .i64 a ∧ LnA w wr2 n (.slice x y z) pl ∧ Hid (∀ c, c < a → rowR n F pl c = true)) (fun i _ => n - (intOf i).toNat)
        case atStart => exact ⟨0, by omega, rfl, ⟨hBl, hP, hQ⟩, fun c hc => by omega⟩
        case round =>
          clear q0 hP hQ hBl
          obtain ⟨a, ha, rfl, hLA, HA⟩ := hrel
          have q0 := hLA.box.cell (j := 0) rfl
          by_cases hlta : a < n
          · go_wp2_with fail
            clear q0
            go_loopw [8] (fun i wr2 => ∃ b : Nat, b ≤ n ∧ i = .int .i64 b ∧ LnA w wr2 n (.slice x y z) pl ∧ Hid (∀ c, c < b → (F a c && decide (pl.getD c 0 ≤ pl.getD a 0)) = false)) (fun i _ => n - (intOf i).toNat)
            case atStart => exact ⟨0, by omega, rfl, hLA, fun c hc => by omega⟩
            case round =>
              clear hLA
              obtain ⟨b, hbn, rfl, hLA, HBb⟩ := hrel
              have q0 := hLA.box.cell (j := 0) rfl
              by_cases hltb : b < n
              · have q1 := hLA.box.cell (j := 1) rfl
                have hP := hLA.pls
                obtain ⟨gm, capm, hM, _, _, _, m1, m2, _, _⟩ := (h.below hLA.below).at_ hlta hltb
                injection hM with hM1 hM2 hM3
                have e2 := hM2.symm
                have e3 := hM3.symm
                subst hM1; subst e2; subst e3
                have da := hP.cellI (i := a) (List.getElem?_eq_getElem (by omega))
                have db := hP.cellI (i := b) (List.getElem?_eq_getElem (by omega))
                have ga : pl.getD a 0 = pl[a]'(by omega) := by simp [List.getD, hpl, hlta]
                have gb : pl.getD b 0 = pl[b]'(by omega) := by simp [List.getD, hpl, hltb]
                rw [← ga] at da
                rw [← gb] at db
                clear ga gb
                have a0 : (0 : Int) ≤ (a : Int) := by omega
                have a1 : (a : Int) < (n : Int) := by omega
                have bb0 : (0 : Int) ≤ (b : Int) := by omega
                have bb1 : (b : Int) < (n : Int) := by omega
                have HT : Hid (rowR n F pl a = false ∨ ¬ (F a b && decide (pl.getD b 0 ≤ pl.getD a 0)) = true) := by
                  by_cases e : (F a b && decide (pl.getD b 0 ≤ pl.getD a 0)) = true
                  · left
                    unfold rowR
                    rw [List.all_eq_false]
                    exact ⟨b, List.mem_range.2 hltb, by rw [e]; decide⟩
                  · exact .inr e
                generalize hpa : pl.getD a 0 = pa at *
                generalize hpb : pl.getD b 0 = pb at *
                have HPa := hid_of hpa
                have HPb := hid_of hpb
                clear hpa hpb
                cases hF : F a b
                · rw [hF] at m2
                  have HF := hid_of hF
                  clear hF hP
                  go_wp2_with fail
                  go_quiet (fail)
                  go_wp2_with fail
                  refine ⟨⟨b + 1, by omega, by go_num, hLA.drewN _, ?_⟩, by simp [intOf]; omega⟩
                  intro c hc
                  by_cases e : c = b
                  · subst e; rw [HF.out]; rfl
                  · exact HBb.out c (by omega)
                · rw [hF] at m2
                  have HF := hid_of hF
                  clear hF
                  by_cases hle : pb ≤ pa
                  · have er : r = false := by
                      rw [← HR.out]
                      unfold allR
                      rw [List.all_eq_false]
                      refine ⟨a, List.mem_range.2 hlta, ?_⟩
                      rcases HT.out with e | e
                      · rw [e]; decide
                      · rw [HF.out] at e
                        simp [hle] at e
                    subst er
                    clear hP
                    go_wp2_with fail
                    go_quiet (fail)
                    go_wp2_with fail
                    go_ret
                    exact ⟨by rw [HLR.out, HR.out]; rfl, (hLA.drewN _).below⟩
                  · have hle2 : decide (pb ≤ pa) = false := by simpa using hle
                    clear hP
                    go_wp2_with fail
                    go_quiet (fail)
                    go_wp2_with fail
                    refine ⟨⟨b + 1, by omega, by go_num, hLA.drewN _, ?_⟩, by simp [intOf]; omega⟩
                    intro c hc
                    by_cases e : c = b
                    · subst e
                      rw [HPb.out, HF.out]
                      simp [hle]
                    · exact HBb.out c (by omega)
              · obtain rfl : b = n := by omega
                go_wp2_with fail
                refine ⟨⟨a + 1, by omega, by go_num, hLA, ?_⟩, by simp [intOf]; omega⟩
                intro c hc
                by_cases e : c = a
                · subst e
                  unfold rowR
                  rw [List.all_eq_true]
                  intro d hd
                  rw [HBb.out d (List.mem_range.1 hd)]
                  rfl
                · exact HA.out c (by omega)
          · obtain rfl : a = n := by omega
            have er : r = true := by
              rw [← HR.out]
              unfold allR
              rw [List.all_eq_true]
              intro c hc
              exact HA.out c (List.mem_range.1 hc)
            subst er
            go_wp2_with fail
            go_ret
            exact ⟨by rw [HLR.out, HR.out]; rfl, hLA.below⟩
  · have e0 : linR n F l = false := by simp [linR, hln]
    rw [e0]
    have hne : ((l.length : Int) != (n : Int)) = true := by simp; omega
    go_enter Tryd.func23, Tryd.ntmps23
    go_wp2_with fail
    go_ret
    exact ⟨rfl, hB0⟩
end Go.Proofs.YtmmgdeoballhpaaDoor
/- The laws of orders: their maths. -/
namespace Go.Proofs.YtmmgdeoballhpaaDoor
open Go.RowKit Go.Shelf Sx Relation

/-- A relation's own table. -/
def tabF (L : List Nat) (p q : Nat) : Bool := (gr L p).testBit q
theorem tab_two (L : List Nat) : TwO L.length (tabF L) L := ⟨rfl, fun _ _ _ _ => rfl⟩
theorem topo_idx {ps : List (Nat × Nat)} {pts : List Nat} (h : TopoU ps pts) (hn : pts.Nodup) {i j : Nat} (hij : (i, j) ∈ ps) (hj : j ∈ pts) : pts.idxOf i < pts.idxOf j := by
  obtain ⟨A, C, e, hjA⟩ := split_mem hj hn
  have hi := h A j C e i hij
  rw [e]
  exact idx_before (R := j :: C) hi hjA
theorem mem_full {pts : List Nat} {n : Nat} (hn : pts.Nodup) (hlt : ∀ i ∈ pts, i < n) (hl : pts.length = n) : ∀ i, i < n → i ∈ pts := by
  intro i hi
  refine Classical.byContradiction fun hni => ?_
  have := sub_len (i :: pts) (List.range n) (List.nodup_cons.2 ⟨hni, hn⟩) (fun x hx => by
    rcases List.mem_cons.1 hx with rfl | hx
    · exact List.mem_range.2 hi
    · exact List.mem_range.2 (hlt x hx))
  simp at this
  omega
section
variable {L : List Nat}
theorem pairs_hs (hn : L.length ≤ 256) (hlow : ∀ R ∈ L, R < 2 ^ L.length) (p q : Nat) : (p, q) ∈ pairsL L ↔ hs L p q := by
  rw [mem_pairsL hn hlow]
  exact ⟨fun h => h.2, fun h => ⟨hs_left h, h⟩⟩
/-- Sort lays all just where there is no cycle. -/
theorem sort_acyc (hn : L.length ≤ 256) (hlow : ∀ R ∈ L, R < 2 ^ L.length) : (sortOf L).length = L.length ↔ loopsL (plusL L) = 0 := by
  have hw := wf_of_low hlow
  have hC := clo_plus (tab_two L) hw
  constructor
  · intro hl
    obtain ⟨g1, g2, g3⟩ := sortOf_good L
    have hall := mem_full g1 g2 hl
    rw [loops_zero]
    intro p hp
    have key : ∀ a b, TransGen (hs L) a b → (sortOf L).idxOf a < (sortOf L).idxOf b := by
      intro a b h
      induction h with
      | single h => exact topo_idx g3 g1 ((pairs_hs hn hlow _ _).2 h) (hall _ (hw.low _ _ h))
      | tail _ h ih => exact Nat.lt_trans ih (topo_idx g3 g1 ((pairs_hs hn hlow _ _).2 h) (hall _ (hw.low _ _ h)))
    have := key p p ((hs_plus hw p p).1 hp)
    omega
  · intro hz
    rw [loops_zero] at hz
    refine sort_all L (leadN L.length (cloB L)) (fun i j hij => ?_)
    have h1 := (pairs_hs hn hlow i j).1 hij
    have hi := hs_left h1
    have hj := hw.low _ _ h1
    have hCij : cloB L i j = true := hC.sub i j hi hj h1
    refine ⟨hi, lead_lt hC hi hj hCij ?_ ?_⟩
    · rw [Bool.eq_false_iff]
      intro e
      exact hz i (hC.trans i j i hi hj hi hCij e)
    · rintro rfl
      exact hz i hCij
theorem sort_lin (hn : L.length ≤ 256) (hlow : ∀ R ∈ L, R < 2 ^ L.length) (hl : (sortOf L).length = L.length) : linB L (toI (sortOf L)) = true := by
  obtain ⟨g1, g2, g3⟩ := sortOf_good L
  have hall := mem_full g1 g2 hl
  have hps := fun p q => pairs_of (tab_two L) hn hlow p q
  rw [lin_iff hps g1 g2 hl hall]
  intro p q hp hq hF
  exact topo_idx g3 g1 ((hps p q).2 ⟨hp, hq, hF⟩) (hall q hq)
theorem glue_lin {l : List (Int × Int)} (h : (glueF L l).2 = 0) : linB L (toI (glueF L l).1) = true := by
  unfold glueF at h ⊢
  split at h
  · cases h
  · split at h
    · rename_i hc
      split at h
      · rename_i hd
        rw [if_pos hc, if_pos hd]
        exact hd
      · cases h
    · cases h
end
/-- A block of two stays. -/
theorem gluF_stay (n : Nat) : ∀ (l : List (Int × Int)) (bs bs' : List (List Nat)) (p : Nat), gluF n l bs = some bs' → (bs.getD p []).length = 2 → bs'.getD p [] = bs.getD p []
  | [], bs, bs', p, h, _ => by
    have h : some bs = some bs' := h
    injection h with h
    rw [h]
  | (a, b) :: l, bs, bs', p, h, hp => by
    rw [gluF] at h
    split at h
    · rename_i hc
      have ne : ∀ x : Int, freeB n bs x = true → x.toNat ≠ p := by
        intro x hx e
        unfold freeB at hx
        rw [Bool.and_eq_true, beq_iff_eq, e, hp] at hx
        omega
      have ha := ne a hc.2.1
      have hb := ne b hc.2.2
      have e : ((bs.set a.toNat [a.toNat, b.toNat]).set b.toNat []).getD p [] = bs.getD p [] := by
        simp only [List.getD_eq_getElem?_getD, List.getElem?_set, if_neg ha, if_neg hb]
      rw [gluF_stay n l _ bs' p h (by rw [e]; exact hp), e]
    · cases h
theorem gluF_has (n : Nat) : ∀ (l : List (Int × Int)) (bs bs' : List (List Nat)), bs.length = n → gluF n l bs = some bs' → ∀ x ∈ l, ∃ a b : Nat, x = ((a : Int), (b : Int)) ∧ a < n ∧ bs'.getD a [] = [a, b]
  | [], _, _, _, _, x, hx => by cases hx
  | (a, b) :: l, bs, bs', hl, h, x, hx => by
    rw [gluF] at h
    split at h
    · rename_i hc
      obtain ⟨i, rfl, hi⟩ := inR_true (freeB_in hc.2.1)
      obtain ⟨j, rfl, hj⟩ := inR_true (freeB_in hc.2.2)
      have hij : i ≠ j := fun e => hc.1 (by rw [e])
      rw [Int.toNat_natCast, Int.toNat_natCast] at h
      rcases List.mem_cons.1 hx with rfl | hx
      · refine ⟨i, j, rfl, hi, ?_⟩
        have e : ((bs.set i [i, j]).set j []).getD i [] = [i, j] := by
          rw [getD_setU _ _ _ _ _ (by rw [List.length_set, hl]; exact hj), if_neg (fun e => hij e.symm), getD_setU _ _ _ _ _ (by rw [hl]; exact hi), if_pos rfl]
        rw [gluF_stay n l _ bs' i h (by rw [e]; rfl), e]
      · exact gluF_has n l _ bs' (by simp [hl]) h x hx
    · cases h
theorem flatten_mem {ls : List (List Nat)} {bl : List Nat} (h : bl ∈ ls) : ∃ A B, ls.flatten = A ++ bl ++ B := by
  obtain ⟨P, Q, e⟩ := List.append_of_mem h
  exact ⟨P.flatten, Q.flatten, by rw [e]; simp⟩
/-- Glue's pairs are together. -/
theorem glue_tog {L : List Nat} {l : List (Int × Int)} (h : (glueF L l).2 = 0) : ∀ x ∈ l, ∃ j : Nat, (toI (glueF L l).1)[j]? = some x.1 ∧ (toI (glueF L l).1)[j + 1]? = some x.2 := by
  intro x hx
  cases hg : gluF L.length l (glInit L.length) with
  | none =>
    have : glueF L l = ([], 1) := by simp [glueF, glB, hg]
    rw [this] at h
    cases h
  | some bs =>
    obtain ⟨a, b, rfl, ha, hb⟩ := gluF_has L.length l _ bs (glInit_length _) hg x hx
    obtain ⟨hbl, _⟩ := gluF_ok L.length l _ bs hg (glInit_ok L.length)
    have er : glueF L l = if (sortOf (betw L (bs.filter (fun b => !b.isEmpty)))).length = (bs.filter (fun b => !b.isEmpty)).length then (if linB L (toI (sbOf L (bs.filter (fun b => !b.isEmpty))).flatten) = true then ((sbOf L (bs.filter (fun b => !b.isEmpty))).flatten, 0) else ([], 3)) else ([], 3) := by simp [glueF, glB, hg]
    by_cases h1 : (sortOf (betw L (bs.filter (fun b => !b.isEmpty)))).length = (bs.filter (fun b => !b.isEmpty)).length
    · rw [if_pos h1] at er
      by_cases h2 : linB L (toI (sbOf L (bs.filter (fun b => !b.isEmpty))).flatten) = true
      · rw [if_pos h2] at er
        rw [er]
        have hm : [a, b] ∈ bs.filter (fun b => !b.isEmpty) := by
          refine List.mem_filter.2 ⟨?_, rfl⟩
          rw [← hb, List.getD_eq_getElem?_getD, List.getElem?_eq_getElem (by rw [hbl]; exact ha)]
          exact List.getElem_mem _
        obtain ⟨i, hi⟩ := List.getElem?_of_mem hm
        obtain ⟨g1, g2, _⟩ := sortOf_good (betw L (bs.filter (fun b => !b.isEmpty)))
        rw [betw_length] at g2
        have hil := (List.getElem?_eq_some_iff.1 hi).1
        have him := mem_full g1 g2 h1 i hil
        have hs : [a, b] ∈ sbOf L (bs.filter (fun b => !b.isEmpty)) := by
          unfold sbOf
          refine List.mem_map.2 ⟨i, him, ?_⟩
          rw [List.getD_eq_getElem?_getD, hi]
          rfl
        obtain ⟨A, B, e⟩ := flatten_mem hs
        refine ⟨A.length, ?_, ?_⟩
        · show (toI (sbOf L (bs.filter (fun b => !b.isEmpty))).flatten)[A.length]? = _
          rw [e]
          apply toI_at
          simp
        · show (toI (sbOf L (bs.filter (fun b => !b.isEmpty))).flatten)[A.length + 1]? = _
          rw [e]
          apply toI_at
          simp
      · rw [if_neg h2] at er
        rw [er] at h
        cases h
    · rw [if_neg h1] at er
      rw [er] at h
      cases h
section
variable {L : List Nat}
/-- What is known of the components. -/
structure CompOK (L : List Nat) (cs : List (List Nat)) : Prop where
  head : ∀ (i : Nat) (bl : List Nat), cs[i]? = some bl → ∃ u tl, bl = u :: tl ∧ u < L.length
  both : ∀ (i j u v : Nat) (bl : List Nat), cs[i]? = some bl → bl[0]? = some u → bl[j]? = some v → 0 < j → hs (plusL L) u v ∧ hs (plusL L) v u ∧ v < L.length
  rise : ∀ (i j v v' : Nat) (bl : List Nat), cs[i]? = some bl → bl[j]? = some v → bl[j + 1]? = some v' → v < v'
  back : ∀ (i k u u' : Nat) (bl bl' : List Nat), cs[i]? = some bl → cs[k]? = some bl' → bl[0]? = some u → bl'[0]? = some u' → k < i → ¬ hs (plusL L) u u'
theorem comps_at {i : Nat} {bl : List Nat} (h : (compsL L)[i]? = some bl) : ∃ j u, (sortOf (betw L (clsK (bothE (cloB L)) L.length)))[i]? = some j ∧ (fstK (bothE (cloB L)) L.length)[j]? = some u ∧ bl = clK (bothE (cloB L)) L.length u := by
  unfold compsL sbOf at h
  rw [List.getElem?_map] at h
  cases hj : (sortOf (betw L (clsK (bothE (cloB L)) L.length)))[i]? with
  | none => rw [hj] at h; cases h
  | some j =>
    rw [hj] at h
    obtain ⟨_, g2, _⟩ := sortOf_good (betw L (clsK (bothE (cloB L)) L.length))
    rw [betw_length] at g2
    have hjl := g2 j (List.mem_of_getElem? hj)
    have hjf : j < (fstK (bothE (cloB L)) L.length).length := by unfold clsK at hjl; rw [List.length_map] at hjl; exact hjl
    refine ⟨j, _, rfl, List.getElem?_eq_getElem hjf, ?_⟩
    simp only [Option.map_some, Option.some.injEq] at h
    rw [← h, List.getD_eq_getElem?_getD]
    unfold clsK
    rw [List.getElem?_map, List.getElem?_eq_getElem hjf]
    rfl
theorem cl_rise (E : Nat → Nat → Bool) (n u : Nat) : (clK E n u).Pairwise (· < ·) := List.Pairwise.filter _ List.pairwise_lt_range
theorem comps_ok (hn : L.length ≤ 256) (hlow : ∀ R ∈ L, R < 2 ^ L.length) : CompOK L (compsL L) := by
  have hw := wf_of_low hlow
  have hC := clo_plus (tab_two L) hw
  have hE := hC.eqv
  have hps := fun p q => pairs_of (tab_two L) hn hlow p q
  have hU := units_cls hE
  obtain ⟨g1, g2, g3⟩ := sortOf_good (betw L (clsK (bothE (cloB L)) L.length))
  have hfull := comps_all (tab_two L) hn hlow hC
  rw [betw_length] at g2
  have hall := mem_full g1 g2 hfull
  have hb0 : ∀ (j u : Nat), (fstK (bothE (cloB L)) L.length)[j]? = some u → ∃ tl, clK (bothE (cloB L)) L.length u = u :: tl := fun j u hj => clK_head (List.mem_of_getElem? hj)
  refine ⟨fun i bl h => ?_, fun i j u v bl h hu hv hj => ?_, fun i j v v' bl h hv hv' => ?_, fun i k u u' bl bl' h h' hu hu' hki hc => ?_⟩
  · obtain ⟨j, u, _, h2, rfl⟩ := comps_at h
    obtain ⟨tl, e⟩ := hb0 j u h2
    exact ⟨u, tl, e, (fstK_mem.1 (List.mem_of_getElem? h2)).1⟩
  · obtain ⟨j', u0, _, h2, rfl⟩ := comps_at h
    obtain ⟨tl, e⟩ := hb0 j' u0 h2
    have hu0 : u0 = u := by rw [e] at hu; simpa using hu
    subst hu0
    have hvm := clK_mem.1 (List.mem_of_getElem? hv)
    have hum := fstK_mem.1 (List.mem_of_getElem? h2)
    have hne : u0 ≠ v := by
      rintro rfl
      have hr := cl_rise (bothE (cloB L)) L.length u0
      have := fst_inj hr hu hv
      omega
    have hEv : bothE (cloB L) u0 v = true := by
      rcases (leastE_same hE hum.1 hvm.1).1 (by rw [hum.2, hvm.2]) with e | e
      · exact absurd e hne
      · exact e
    unfold bothE at hEv
    rw [Bool.and_eq_true] at hEv
    exact ⟨hEv.1, hEv.2, hvm.1⟩
  · obtain ⟨j', u0, _, h2, rfl⟩ := comps_at h
    have hr := cl_rise (bothE (cloB L)) L.length u0
    obtain ⟨l1, e1⟩ := List.getElem?_eq_some_iff.1 hv
    obtain ⟨l2, e2⟩ := List.getElem?_eq_some_iff.1 hv'
    have := List.pairwise_iff_getElem.1 hr j (j + 1) l1 l2 (by omega)
    omega
  · obtain ⟨j, u0, hj1, hj2, rfl⟩ := comps_at h
    obtain ⟨k', u1, hk1, hk2, rfl⟩ := comps_at h'
    obtain ⟨tl, e⟩ := hb0 j u0 hj2
    obtain ⟨tl', e'⟩ := hb0 k' u1 hk2
    have hu0 : u0 = u := by rw [e] at hu; simpa using hu
    have hu1 : u1 = u' := by rw [e'] at hu'; simpa using hu'
    subst hu0; subst hu1
    have hum := fstK_mem.1 (List.mem_of_getElem? hj2)
    have hum' := fstK_mem.1 (List.mem_of_getElem? hk2)
    have key : ∀ a b, TransGen (hs L) a b → ∀ ja jb : Nat, (fstK (bothE (cloB L)) L.length)[ja]? = some (leastE (bothE (cloB L)) a) → (fstK (bothE (cloB L)) L.length)[jb]? = some (leastE (bothE (cloB L)) b) → (sortOf (betw L (clsK (bothE (cloB L)) L.length))).idxOf ja ≤ (sortOf (betw L (clsK (bothE (cloB L)) L.length))).idxOf jb := by
      have one : ∀ a b, hs L a b → ∀ ja jb : Nat, (fstK (bothE (cloB L)) L.length)[ja]? = some (leastE (bothE (cloB L)) a) → (fstK (bothE (cloB L)) L.length)[jb]? = some (leastE (bothE (cloB L)) b) → (sortOf (betw L (clsK (bothE (cloB L)) L.length))).idxOf ja ≤ (sortOf (betw L (clsK (bothE (cloB L)) L.length))).idxOf jb := by
        intro a b hab ja jb hja hjb
        have han := hs_left hab
        have hbn := hw.low _ _ hab
        by_cases hne : leastE (bothE (cloB L)) a = leastE (bothE (cloB L)) b
        · rw [hne] at hja
          rw [fst_inj (fstK_rise _ _) hja hjb]
          exact Nat.le_refl _
        · have hB := (hU.BF hps (i := ja) (j := jb) (by rw [offs_fsts]; exact hja) (by rw [offs_fsts]; exact hjb)).2 ⟨hne, a, b, han, hbn, hab, offs_at han, offs_at hbn⟩
          have hjal : ja < (betw L (clsK (bothE (cloB L)) L.length)).length := by
            rw [betw_length]; unfold clsK; rw [List.length_map]; exact (List.getElem?_eq_some_iff.1 hja).1
          have hjbl : jb < (betw L (clsK (bothE (cloB L)) L.length)).length := by
            rw [betw_length]; unfold clsK; rw [List.length_map]; exact (List.getElem?_eq_some_iff.1 hjb).1
          have hcl := cls_len (bothE (cloB L)) L.length
          have hp := ((betw_two L (clsK (bothE (cloB L)) L.length)).pairs (by rw [betw_length]; omega) (betw_low _ _) hjal hjbl).1 hB
          exact Nat.le_of_lt (topo_idx g3 g1 hp (hall jb (by rw [betw_length] at hjbl; exact hjbl)))
      intro a b hab
      induction hab with
      | single h => exact one _ _ h
      | tail h1 h2 ih =>
        intro ja jb hja hjb
        have hmn := hs_left h2
        obtain ⟨jm, hjm⟩ := List.getElem?_of_mem (fstK_mem.2 ⟨Nat.lt_of_le_of_lt (leastE_le _ _) hmn, leastE_idem hE hmn⟩)
        exact Nat.le_trans (ih ja jm hja hjm) (one _ _ h2 jm jb hjm hjb)
    have hle := key u0 u1 ((hs_plus hw u0 u1).1 hc) j k' (by rw [hum.2]; exact hj2) (by rw [hum'.2]; exact hk2)
    have i1 : (sortOf (betw L (clsK (bothE (cloB L)) L.length))).idxOf j = i := by
      obtain ⟨l1, e1⟩ := List.getElem?_eq_some_iff.1 hj1
      rw [← e1]
      exact g1.idxOf_getElem i l1
    have i2 : (sortOf (betw L (clsK (bothE (cloB L)) L.length))).idxOf k' = k := by
      obtain ⟨l1, e1⟩ := List.getElem?_eq_some_iff.1 hk1
      rw [← e1]
      exact g1.idxOf_getElem k l1
    rw [i1, i2] at hle
    omega
end
end Go.Proofs.YtmmgdeoballhpaaDoor
/- All lists of all points, gone through: those that are linear are the orders, in their order. -/
namespace Go.Proofs.YtmmgdeoballhpaaDoor
open Go.RowKit Go.Shelf Sx

/-- One point more, each that is not there. -/
def freshP (n : Nat) (l : List Nat) : List Nat := (List.range n).filter (fun p => !l.contains p)
def moreP (n : Nat) (ls : List (List Nat)) : List (List Nat) := ls.flatMap (fun l => (freshP n l).map (fun p => l ++ [p]))
def prm (n : Nat) : Nat → List (List Nat)
  | 0 => [[]]
  | k + 1 => moreP n (prm n k)
def moreC (n : Nat) (ps : List (Nat × Nat)) (ls : List (List Nat)) : List (List Nat) := ls.flatMap (fun l => (cands n ps l 0).map (fun p => l ++ [p]))
def levC (n : Nat) (ps : List (Nat × Nat)) : Nat → List (List Nat)
  | 0 => [[]]
  | k + 1 => moreC n ps (levC n ps k)
theorem exts_flat (n : Nat) (ps : List (Nat × Nat)) (f : Nat) (ls : List (List Nat)) : ls.flatMap (exts n ps (f + 1)) = (moreC n ps ls).flatMap (exts n ps f) := by
  unfold moreC
  rw [List.flatMap_assoc]
  congr 1
  funext l
  rw [exts, List.flatMap_map]
theorem exts_lev (n : Nat) (ps : List (Nat × Nat)) : ∀ (f k : Nat), (levC n ps k).flatMap (exts n ps f) = levC n ps (k + f)
  | 0, k => by
    rw [Nat.add_zero, show exts n ps 0 = fun pts => [pts] from funext fun _ => rfl]
    simp
  | f + 1, k => by
    rw [exts_flat]
    show (levC n ps (k + 1)).flatMap (exts n ps f) = _
    rw [exts_lev n ps f (k + 1)]
    congr 1
    omega
theorem exts_all (n : Nat) (ps : List (Nat × Nat)) : exts n ps n [] = levC n ps n := by
  have := exts_lev n ps n 0
  rw [show levC n ps 0 = [[]] from rfl] at this
  simpa using this
theorem wAt_iff {ps : List (Nat × Nat)} {pts : List Nat} {p : Nat} : wAt ps pts p = 0 ↔ p ∉ pts ∧ ∀ i, (i, p) ∈ ps → i ∈ pts := by
  refine ⟨wAt_zero, fun ⟨h1, h2⟩ => ?_⟩
  unfold wAt
  rw [if_neg (by simpa using h1)]
  have : ps.filter (fun x => x.2 == p && !pts.contains x.1) = [] := by
    rw [List.filter_eq_nil_iff]
    rintro ⟨a, q⟩ hx hc
    simp only [Bool.and_eq_true, beq_iff_eq, Bool.not_eq_true'] at hc
    obtain ⟨rfl, hc⟩ := hc
    rw [List.contains_iff_mem.2 (h2 a hx)] at hc
    cases hc
  rw [this]; rfl
theorem topo_pre {ps : List (Nat × Nat)} {pts : List Nat} {p : Nat} (h : TopoU ps (pts ++ [p])) : TopoU ps pts ∧ ∀ i, (i, p) ∈ ps → i ∈ pts :=
  ⟨fun A j C e => h A j (C ++ [p]) (by rw [e]; simp), fun i hi => h pts p [] (by simp) i hi⟩
open Classical in
theorem lev_filter (n : Nat) (ps : List (Nat × Nat)) : ∀ k, (prm n k).filter (fun l => decide (TopoU ps l)) = levC n ps k
  | 0 => by
    have : TopoU ps [] := fun A j C e => absurd e (by simp)
    simp [prm, levC, this]
  | k + 1 => by
    show (moreP n (prm n k)).filter _ = moreC n ps (levC n ps k)
    rw [← lev_filter n ps k]
    unfold moreP moreC
    generalize prm n k = ls
    induction ls with
    | nil => rfl
    | cons l ls ih =>
      rw [List.flatMap_cons, List.filter_append, ih, List.filter_cons]
      by_cases hl : TopoU ps l
      · rw [if_pos (by simpa using hl), List.flatMap_cons]
        congr 1
        rw [List.filter_map]
        congr 1
        unfold freshP cands
        rw [List.filter_filter]
        apply List.filter_congr
        intro p _
        rw [Bool.eq_iff_iff]
        simp only [Function.comp, Bool.and_eq_true, decide_eq_true_eq, Bool.not_eq_true', beq_iff_eq, Nat.zero_le, true_and]
        rw [wAt_iff]
        constructor
        · rintro ⟨h1, h2⟩
          exact ⟨fun hm => (by rw [List.contains_iff_mem.2 hm] at h2; cases h2), (topo_pre h1).2⟩
        · rintro ⟨h1, h2⟩
          exact ⟨hl.snoc h2, by rw [Bool.eq_false_iff]; intro hc; exact h1 (List.contains_iff_mem.1 hc)⟩
      · rw [if_neg (by simpa using hl)]
        have : ((freshP n l).map (fun p => l ++ [p])).filter (fun l => decide (TopoU ps l)) = [] := by
          rw [List.filter_eq_nil_iff]
          intro x hx hc
          obtain ⟨p, _, rfl⟩ := List.mem_map.1 hx
          exact hl (topo_pre (of_decide_eq_true hc)).1
        rw [this, List.nil_append]
/-- A list that is gone through. -/
structure PrmOk (n k : Nat) (l : List Nat) : Prop where
  len : l.length = k
  nodup : l.Nodup
  lt : ∀ p ∈ l, p < n
theorem prm_ok (n : Nat) : ∀ (k : Nat) (l : List Nat), l ∈ prm n k → PrmOk n k l
  | 0, l, h => by
    have : l = [] := by simpa [prm] using h
    subst this
    exact ⟨rfl, List.nodup_nil, fun p hp => by simp at hp⟩
  | k + 1, l, h => by
    obtain ⟨l0, h0, h1⟩ := List.mem_flatMap.1 h
    obtain ⟨p, hp, rfl⟩ := List.mem_map.1 h1
    obtain ⟨a, b, c⟩ := prm_ok n k l0 h0
    unfold freshP at hp
    rw [List.mem_filter, List.mem_range] at hp
    have hn : p ∉ l0 := fun hm => by have := hp.2; rw [List.contains_iff_mem.2 hm] at this; cases this
    refine ⟨by simp [a], ?_, fun q hq => ?_⟩
    · rw [List.nodup_append]
      exact ⟨b, by simp, fun x hx y hy => by simp at hy; subst hy; exact fun e => hn (e ▸ hx)⟩
    · rcases List.mem_append.1 hq with hq | hq
      · exact c q hq
      · simp at hq; subst hq; exact hp.1
theorem PrmOk.all {n : Nat} {l : List Nat} (h : PrmOk n n l) : ∀ p, p < n → p ∈ l := by
  intro i hi
  refine Classical.byContradiction fun hni => ?_
  have := sub_len (i :: l) (List.range n) (List.nodup_cons.2 ⟨hni, h.nodup⟩) (fun x hx => by
    rcases List.mem_cons.1 hx with rfl | hx
    · exact List.mem_range.2 hi
    · exact List.mem_range.2 (h.lt x hx))
  have h2 := h.len
  simp at this
  omega
theorem idx_topo {ps : List (Nat × Nat)} {l : List Nat} (hn : l.Nodup) (h : ∀ i j, (i, j) ∈ ps → i ∈ l ∧ l.idxOf i < l.idxOf j) : TopoU ps l := by
  intro A j C e i hi
  obtain ⟨h1, h2⟩ := h i j hi
  have hj : j ∉ A := fun hj => by
    rw [e] at hn
    have := (List.nodup_append.1 hn).2.2 j hj j (by simp)
    exact this rfl
  rw [e] at h1 h2
  rcases List.mem_append.1 h1 with h3 | h3
  · exact h3
  · exfalso
    have hA : l.idxOf j = A.length := by
      rw [e, List.idxOf_append, if_neg hj]
      simp
    by_cases hiA : i ∈ A
    · rcases List.mem_cons.1 h3 with rfl | h3
      · exact hj hiA
      · rw [e] at hn
        exact (List.nodup_append.1 hn).2.2 i hiA i (List.mem_cons_of_mem _ h3) rfl
    · rw [← e, hA, e, List.idxOf_append, if_neg hiA] at h2
      omega
open Classical in
theorem allO_exts {L : List Nat} (hlow : ∀ R ∈ L, R < 2 ^ L.length) : allO L = exts L.length (pairsL L) L.length [] := by
  unfold allO
  split
  · rfl
  · rename_i h
    rw [exts_all, ← lev_filter, eq_comm, List.filter_eq_nil_iff]
    intro l hl hc
    have hp := prm_ok _ _ l hl
    exact h (line_sort hlow ⟨hp.nodup, hp.lt, of_decide_eq_true hc⟩ hp.len)
/-- Of all lists those that are linear are the orders. -/
theorem all_good {L : List Nat} (hn : L.length ≤ 256) (hlow : ∀ R ∈ L, R < 2 ^ L.length) : (prm L.length L.length).filter (fun l => linB L (toI l)) = allO L := by
  classical
  rw [allO_exts hlow, exts_all, ← lev_filter]
  have hps := fun p q => pairs_of (tab_two L) hn hlow p q
  apply List.filter_congr
  intro l hl
  have hp := prm_ok _ _ l hl
  rw [Bool.eq_iff_iff, decide_eq_true_eq, lin_iff hps hp.nodup hp.lt hp.len hp.all]
  constructor
  · intro h
    exact idx_topo hp.nodup (fun i j hij => ⟨hp.all i ((hps i j).1 hij).1, h i j ((hps i j).1 hij).1 ((hps i j).1 hij).2.1 ((hps i j).1 hij).2.2⟩)
  · intro h p q hp' hq hF
    exact topo_idx h hp.nodup ((hps p q).2 ⟨hp', hq, hF⟩) (hp.all q hq)
end Go.Proofs.YtmmgdeoballhpaaDoor
/- Where there is any order with the pairs together, Glue tells one. -/
namespace Go.Proofs.YtmmgdeoballhpaaDoor
open Go.RowKit Go.Shelf Sx

theorem gluF_of (n : Nat) : ∀ (l : List (Int × Int)) (bs bs' : List (List Nat)) (O : List Nat) (X : List Int) (U : List Bool), GlOf n bs O X U → gluF n l bs = some bs' →
    ∃ O' X' U', GlOf n bs' O' X' U' ∧ ∀ p q : Nat, p < n → X'.getD p 0 = (q : Int) → X.getD p 0 = (q : Int) ∨ ((p : Int), (q : Int)) ∈ l
  | [], bs, bs', O, X, U, h, hg => by
    have hg : some bs = some bs' := hg
    injection hg with hg
    subst hg
    exact ⟨O, X, U, h, fun p q _ hx => .inl hx⟩
  | (a, b) :: l, bs, bs', O, X, U, h, hg => by
    rw [gluF] at hg
    split at hg
    · rename_i hc
      obtain ⟨h1, h2, h3⟩ := hc
      rw [h.free, Bool.and_eq_true, Bool.not_eq_true'] at h2 h3
      obtain ⟨i, rfl, hi⟩ := inR_true h2.1
      obtain ⟨j, rfl, hj⟩ := inR_true h3.1
      rw [Int.toNat_natCast] at h2 h3
      have hij : i ≠ j := fun e => h1 (by rw [e])
      rw [Int.toNat_natCast, Int.toNat_natCast] at hg
      obtain ⟨O', X', U', g1, g2⟩ := gluF_of n l _ bs' _ _ _ (h.step hi hj hij h2.2 h3.2) hg
      refine ⟨O', X', U', g1, fun p q hp hx => ?_⟩
      rcases g2 p q hp hx with e | e
      · rw [getD_setU _ _ _ _ _ (by rw [h.lx]; exact hi)] at e
        by_cases e2 : i = p
        · rw [if_pos e2] at e
          right
          have : j = q := by exact_mod_cast e
          rw [← e2, ← this]
          exact List.mem_cons_self ..
        · rw [if_neg e2] at e
          exact .inl e
      · exact .inr (List.mem_cons_of_mem _ e)
    · cases hg
/-- Next to one another in an order. -/
theorem idx_next {o : List Nat} (hn : o.Nodup) {p q j : Nat} (h1 : o[j]? = some p) (h2 : o[j + 1]? = some q) : o.idxOf q = o.idxOf p + 1 := by
  obtain ⟨hj, e1⟩ := List.getElem?_eq_some_iff.1 h1
  obtain ⟨hj2, e2⟩ := List.getElem?_eq_some_iff.1 h2
  rw [← e1, ← e2, hn.idxOf_getElem, hn.idxOf_getElem]
theorem idx_inj {o : List Nat} {u v : Nat} (hu : u ∈ o) (h : o.idxOf u = o.idxOf v) : u = v := by
  have h1 : o.idxOf u < o.length := List.idxOf_lt_length_of_mem hu
  have h2 : o.idxOf v < o.length := h ▸ h1
  have e1 := List.getElem_idxOf h1
  have e2 := List.getElem_idxOf h2
  rw [← e1, ← e2]
  simp only [h]
theorem glue_all {L : List Nat} (hn : L.length ≤ 256) (hlow : ∀ R ∈ L, R < 2 ^ L.length) {l : List (Int × Int)} {o : List Nat} (ho : PrmOk L.length L.length o) (hlin : linB L (toI o) = true)
    (htog : ∀ x ∈ l, ∃ j : Nat, (toI o)[j]? = some x.1 ∧ (toI o)[j + 1]? = some x.2) (h1 : (glueF L l).2 ≠ 1) : (glueF L l).2 = 0 := by
  cases hg : gluF L.length l (glInit L.length) with
  | none =>
    have : glueF L l = ([], 1) := by simp [glueF, glB, hg]
    rw [this] at h1
    exact absurd rfl h1
  | some bs =>
    have hT := tab_two L
    have hps := fun p q => pairs_of hT hn hlow p q
    obtain ⟨O, X, U, h, hX⟩ := gluF_of L.length l _ bs _ _ _ (GlOf.start L.length) hg
    have hX2 : ∀ p q : Nat, p < L.length → X.getD p 0 = (q : Int) → o.idxOf q = o.idxOf p + 1 := by
      intro p q hp hx
      rcases hX p q hp hx with e | e
      · exfalso
        rw [List.getD_eq_getElem?_getD, List.getElem?_replicate, if_pos hp] at e
        simp at e
      · obtain ⟨j, e1, e2⟩ := htog _ e
        refine idx_next ho.nodup (j := j) ?_ ?_
        · simp only [toI, List.getElem?_map, Option.map_eq_some_iff] at e1
          obtain ⟨a, ha, e1⟩ := e1
          have : a = p := by exact_mod_cast e1
          rw [ha, this]
        · simp only [toI, List.getElem?_map, Option.map_eq_some_iff] at e2
          obtain ⟨a, ha, e2⟩ := e2
          have : a = q := by exact_mod_cast e2
          rw [ha, this]
    have hlt := (lin_iff hps ho.nodup ho.lt ho.len ho.all).1 hlin
    have hin : ∀ p, p < L.length → p = O.getD p 0 ∨ o.idxOf p = o.idxOf (O.getD p 0) + 1 := by
      intro p hp
      obtain ⟨u1, u2, u3, _⟩ := h.unit hp
      rcases h.cases u1 u2 with e | ⟨x, e, hx, _⟩
      · rw [e] at u3
        exact .inl (by simpa using u3)
      · rw [e] at u3
        rcases List.mem_cons.1 u3 with e3 | e3
        · exact .inl e3
        · have : p = x := by simpa using e3
          subst this
          exact .inr (hX2 _ p u1 hx)
    have hgood : ∀ u, u < L.length → SmU L.length (tabF L) O X u u = false := by
      intro u hu
      rw [Bool.eq_false_iff]
      intro hs
      obtain ⟨p, q, hp, hq, hF, hXp, hOp, hOq⟩ := SmU_iff.1 hs
      have h3 := hlt p q hp hq hF
      have hpi := hin p hp
      have hqi := hin q hq
      rw [hOp] at hpi
      rw [hOq] at hqi
      rcases hpi with e1 | e1
      · subst e1
        rcases hqi with e2 | e2
        · subst e2; omega
        · have hup := (h.unit hp)
          rw [hOp] at hup
          rcases h.cases hp hOp with e | ⟨x, e, hx, _⟩
          · have := (h.unit hq).2.2.1
            rw [hOq, e] at this
            have : q = p := by simpa using this
            subst this
            omega
          · have := (h.unit hq).2.2.1
            rw [hOq, e] at this
            rcases List.mem_cons.1 this with e4 | e4
            · subst e4; omega
            · have : q = x := by simpa using e4
              subst this
              exact hXp hx
      · rcases hqi with e2 | e2
        · subst e2; omega
        · omega
    rw [glue_good hg h hT hn hlow hgood]
    have hbl : (bs.filter (fun b => !b.isEmpty)).length = (fsts L.length O).length := by rw [h.blocks, List.length_map]
    have hle : (betw L (bs.filter (fun b => !b.isEmpty))).length = (fsts L.length O).length := by rw [betw_length, hbl]
    have hfl : (fsts L.length O).length ≤ L.length := by
      have := List.length_filter_le (fun p => O.getD p 0 == p) (List.range L.length)
      rw [List.length_range] at this
      exact this
    have hs := sort_all (betw L (bs.filter (fun b => !b.isEmpty))) (fun i => o.idxOf ((fsts L.length O).getD i 0)) (fun i j hij => by
      have hbw := betw_two L (bs.filter (fun b => !b.isEmpty))
      have hb := pairsL_lt (betw_low _ _) _ hij
      refine ⟨hb.1, ?_⟩
      have hB := (hbw.pairs (by omega) (betw_low _ _) hb.1 hb.2).2 hij
      obtain ⟨u, hu1, hu2, hu3, hu4⟩ := fs_at (n := L.length) (O := O) (i := i) (by omega)
      obtain ⟨v, hv1, hv2, hv3, hv4⟩ := fs_at (n := L.length) (O := O) (i := j) (by omega)
      obtain ⟨hne, p, q, hp, hq, hF, hOp, hOq⟩ := (BF_iff h hps hu1 hv1).1 hB
      have h3 := hlt p q hp hq hF
      have hpi := hin p hp
      have hqi := hin q hq
      rw [hOp] at hpi
      rw [hOq] at hqi
      show o.idxOf ((fsts L.length O).getD i 0) < o.idxOf ((fsts L.length O).getD j 0)
      rw [hu2, hv2]
      have hne2 : o.idxOf u ≠ o.idxOf v := fun e => hne (idx_inj (ho.all u hu3) e)
      rcases hpi with e1 | e1
      · rcases hqi with e2 | e2
        · rw [← e1, ← e2]; exact h3
        · rw [← e1] at hne2 ⊢; omega
      · rcases hqi with e2 | e2
        · rw [← e2]; omega
        · omega)
    rw [if_pos (by rw [hs, hle])]
end Go.Proofs.YtmmgdeoballhpaaDoor
