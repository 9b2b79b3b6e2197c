/- The contract of the statement's helper rises: of a relation without a cycle it answers true. -/
import Derived.Test.YtpflelkdkpabbaaDoorCycMath
import Derived.Test.YtpflelkdkpabbaaDoorKnownMem
namespace Go.Proofs.YtpflelkdkpabbaaDoor
open Go.RowKit Go.Shelf Sx Relation

def encA (num : List Nat) : Array Value := (encI num).toArray
theorem encA_at {num : List Nat} {j : Nat} (h : j < num.length) : (encA num)[j]? = some (.int .i64 ((gr num j : Nat) : Int)) := by
  simp [encA, encI, gr_of h]
theorem encA_set (num : List Nat) (j v : Nat) : (encA num).setIfInBounds j (.int .i64 ((v : Nat) : Int)) = encA (num.set j v) := by
  simp [encA, encI]
theorem make_ints (n : Nat) (h : n ≤ 256) (w : World) : (Instr.makeSlice 61 (.int .i64 n) (.int .i64 n)).run Tryd.prog w = .ok (.slice (some ⟨w.heap.size, 0, none⟩) n n) (w.alloc (.cells (encA (List.replicate n 0)) 3)) := by
  obtain ⟨i, hx, hz, hs, hb⟩ := info_parts Tryd.infoint
  have := run_make (P := Tryd.prog) w 61 3 i _ Tryd.underlying61 hx hz .i64 .i64 n n (by omega) (by omega) (by rw [hb]; omega) (by omega)
  rw [this, hs]
  have e : madeCells (Value.int .i64 0).cells ((n : Int).toNat * 1) = encA (List.replicate n 0) := by
    apply Array.toList_inj.1
    rw [Int.toNat_natCast, Nat.mul_one, show (Value.int .i64 0).cells = #[.int .i64 0] from rfl, toList_madeCells_one]
    simp [encA, encI]
  rw [e]
  rfl

theorem mem_pairsL (L : List Nat) (hl : L.length ≤ 256) (hw : WF L.length L) (x : Nat × Nat) : x ∈ pairsL L ↔ hs L x.1 x.2 := by
  unfold pairsL pairsK
  rw [List.mem_flatMap]
  constructor
  · rintro ⟨p, _, h⟩
    obtain ⟨q, hq, rfl⟩ := List.mem_map.1 h
    exact (mem_bitsOf.1 hq).2
  · intro h
    refine ⟨x.1, by rw [List.mem_range]; exact hs_left h, List.mem_map.2 ⟨x.2, mem_bitsOf.2 ⟨?_, h⟩, rfl⟩⟩
    have := hw.low _ _ h
    omega

theorem pairsL_short (L : List Nat) (h : L.length ≤ 256) : (pairsL L).length ≤ 65536 := by
  have := pairsK_length L L.length
  unfold pairsL
  omega
/-- What the loops of rises find. -/
structure RisAt (w W : World) (p : Option Addr) (P : List (Nat × Nat)) (nb : Nat) (num : List Nat) : Prop where
  below : Below w.heap.size w W
  prs : ∀ (m : Nat) (x : Nat × Nat), P[m]? = some x → ∃ s o, p = some ⟨s, o, none⟩ ∧ s ≠ nb ∧ W.cell? ⟨s, o + m * 2, none⟩ = some (.int .i64 ((x.1 : Nat) : Int)) ∧ W.cell? ⟨s, o + m * 2 + 1, none⟩ = some (.int .i64 ((x.2 : Nat) : Int))
  blk : Blk W nb 3 (encA num)
  hnb : w.heap.size ≤ nb
theorem RisAt.drewN {w W : World} {p : Option Addr} {P : List (Nat × Nat)} {nb : Nat} {num : List Nat} (h : RisAt w W p P nb num) (k : Nat) : RisAt w (W.drewN k) p P nb num :=
  ⟨below_drewN h.below k, h.prs, h.blk, h.hnb⟩
theorem RisAt.set {w W : World} {p : Option Addr} {P : List (Nat × Nat)} {nb : Nat} {num : List Nat} (h : RisAt w W p P nb num) (j v : Nat) : RisAt w (W.setCell ⟨nb, j, none⟩ (.int .i64 ((v : Nat) : Int))) p P nb (num.set j v) := by
  refine ⟨h.below.setCell h.hnb _, ?_, ?_, h.hnb⟩
  · intro m x hx
    obtain ⟨s, o, h1, h2, h3, h4⟩ := h.prs m x hx
    exact ⟨s, o, h1, h2, (World.cell?_setCell_far _ _ _ _ (Ne.symm h2)).trans h3, (World.cell?_setCell_far _ _ _ _ (Ne.symm h2)).trans h4⟩
  · have := h.blk.set j (.int .i64 ((v : Nat) : Int))
    rwa [encA_set] at this

/-- In the middle of the look at the pairs that end in j. -/
def InnerOK (L num : List Nat) (P : List (Nat × Nat)) (j k m : Nat) (fr : Bool) : Prop :=
  (fr = true → gr num j = 0 ∧ ∀ t x, t < m → P[t]? = some x → x.2 = j → gr num x.1 ≠ 0 ∧ gr num x.1 ≠ k) ∧
  (fr = false → gr num j ≠ 0 ∨ ∃ q, hs L q j ∧ (gr num q = 0 ∨ gr num q = k))
section
variable {L num : List Nat} {P : List (Nat × Nat)} {j k m : Nat}
theorem inner_free (h : gr num j = 0) : InnerOK L num P j k 0 true := ⟨fun _ => ⟨h, fun t x ht => by omega⟩, fun h => by cases h⟩
theorem inner_had (h : gr num j ≠ 0) : InnerOK L num P j k 0 false := ⟨(fun h => by cases h), fun _ => Or.inl h⟩
theorem inner_skip {x : Nat × Nat} (h : InnerOK L num P j k m true) (hx : P[m]? = some x) (hor : x.2 = j → gr num x.1 ≠ 0 ∧ gr num x.1 ≠ k) : InnerOK L num P j k (m + 1) true := by
  refine ⟨fun _ => ⟨(h.1 rfl).1, fun t y ht hy => ?_⟩, fun h => by cases h⟩
  by_cases e : t = m
  · subst e
    rw [hx] at hy
    cases hy
    exact hor
  · exact (h.1 rfl).2 t y (by omega) hy
theorem inner_hit {x : Nat × Nat} (hx : hs L x.1 x.2) (hj : x.2 = j) (hor : gr num x.1 = 0 ∨ gr num x.1 = k) : InnerOK L num P j k (m + 1) false :=
  ⟨(fun h => by cases h), fun _ => Or.inr ⟨x.1, hj ▸ hx, hor⟩⟩
theorem inner_all (hP : ∀ x : Nat × Nat, x ∈ P ↔ hs L x.1 x.2) (h : InnerOK L num P j k P.length true) : gr num j = 0 ∧ ∀ q, hs L q j → gr num q ≠ 0 ∧ gr num q ≠ k := by
  refine ⟨(h.1 rfl).1, fun q hq => ?_⟩
  obtain ⟨t, ht, he⟩ := List.getElem_of_mem ((hP (q, j)).2 hq)
  exact (h.1 rfl).2 t (q, j) ht (by rw [List.getElem?_eq_getElem ht, he]) rfl
end

set_option maxRecDepth 100000 in
set_option maxHeartbeats 4000000 in
theorem rises_at (b c : Nat) (L : List Nat) (w : World) (h : IsRel w b c L) (hT : Tab w) (hac : Hid (∀ p, ¬ TransGen (hs L) p p)) (P : List (Nat × Nat)) (HP : Hid (pairsL L = P)) (N : Nat) (HN : L.length = N) (hPl : P.length ≤ 65536) :
    Calls Tryd.prog 38 #[pv b] w fun e w' => e = .returned (.bool true) ∧ Below w.heap.size w w' := by
  have hl : N ≤ 256 := by rw [← HN]; exact h.len
  have HW : Hid (WF N L) := h.wf HN
  have Hmem : Hid (∀ x : Nat × Nat, x ∈ P ↔ hs L x.1 x.2) := by
    intro x
    rw [← HP.out]
    exact mem_pairsL L h.len (h.wf rfl) x
  go_enter Tryd.func38, Tryd.ntmps38
  go_wp2_with fail
  refine (Len_c b c L _ h).mono ?_
  rw [HN]
  rintro e w' ⟨rfl, rfl⟩
  go_wp2_with fail
  refine (Pairs_calls b c L _ h hT).mono ?_
  rw [HP.out]
  rintro e w1 ⟨v, rfl, ho, hB1⟩
  have hmk := make_ints N hl
  obtain ⟨p, cap, rfl, hprs⟩ : ∃ p cap, v = .slice p P.length cap ∧ ∀ (m : Nat) (x : Nat × Nat), P[m]? = some x → ∃ s o, p = some ⟨s, o, none⟩ ∧ s < w1.heap.size ∧ w1.cell? ⟨s, o + m * 2, none⟩ = some (.int .i64 ((x.1 : Nat) : Int)) ∧ w1.cell? ⟨s, o + m * 2 + 1, none⟩ = some (.int .i64 ((x.2 : Nat) : Int)) := by
    rcases owns_pairs ho with ⟨rfl, e⟩ | ⟨s, o, cap, rfl, h1, h2⟩
    · obtain rfl : P = [] := by simpa using e
      exact ⟨none, 0, rfl, fun m x hx => by simp at hx⟩
    · refine ⟨some ⟨s, o, none⟩, cap, by rw [List.length_map], fun m x hx => ?_⟩
      have := h2 m _ (by rw [List.getElem?_map, hx]; rfl)
      exact ⟨s, o, rfl, h1, this.1, this.2⟩
  have hR0 : RisAt w (w1.alloc (.cells (encA (List.replicate N 0)) 3)) p P w1.heap.size (List.replicate N 0) := by
    refine ⟨hB1.alloc hB1.size _, fun m x hx => ?_, Blk.new _ _ _, hB1.size⟩
    obtain ⟨s, o, h1, h2, h3, h4⟩ := hprs m x hx
    exact ⟨s, o, h1, by omega, (World.cell?_alloc_lt _ _ _ h2).trans h3, (World.cell?_alloc_lt _ _ _ h2).trans h4⟩
  clear ho hprs h hT HN HP hB1
  go_wp2_with fail
  clear hmk
  generalize w1.heap.size = nb at *
  go_loopw [6] (fun i wr => ∃ k num, 1 ≤ k ∧ k ≤ N + 1 ∧ i = .int .i64 ((k : Nat) : Int) ∧ Mid L N k 0 num ∧ RisAt w wr p P nb num) (fun i _ => N + 1 - (intOf i).toNat)
  case atStart => exact ⟨1, _, by omega, by omega, rfl, mid_start L N, hR0⟩
  case round =>
    clear hR0
    obtain ⟨k, num, hk1, hk2, rfl, hMid, hR⟩ := hrel
    by_cases hlt : k ≤ N
    · go_wp2_with fail
      go_loopw [7] (fun i wr => ∃ j num, j ≤ N ∧ i = .int .i64 ((j : Nat) : Int) ∧ Mid L N k j num ∧ RisAt w wr p P nb num) (fun i _ => N - (intOf i).toNat)
      case atStart => exact ⟨0, num, by omega, rfl, hMid, hR⟩
      case round =>
        clear hMid hR num
        obtain ⟨j, num, hj, rfl, hMid, hR⟩ := hrel
        by_cases hjl : j < N
        · have hjn : j < num.length := by rw [hMid.len]; exact hjl
          have cj := hR.blk.cell (encA_at hjn)
          by_cases h0 : gr num j = 0
          · have HI : InnerOK L num P j k 0 true := inner_free h0
            rw [h0] at cj
            go_wp2_with fail
            clear cj
            go_loopw [8, 9] (fun f i wr => ∃ m fr, m ≤ P.length ∧ f = .bool fr ∧ i = .int .i64 ((m : Nat) : Int) ∧ RisAt w wr p P nb num ∧ InnerOK L num P j k m fr) (fun _ i _ => P.length - (intOf i).toNat)
            case atStart => exact ⟨0, true, by omega, rfl, rfl, hR, HI⟩
            case round =>
              clear hR HI
              obtain ⟨m, fr, hm, rfl, rfl, hR, HI⟩ := hrel
              have hjj := hjn
              cases fr
              · by_cases hml : m < P.length
                · go_wp2_with fail
                  refine ⟨⟨j + 1, num, by omega, by go_num, mid_stuck HW.out hMid hk1 (HI.2 rfl), hR⟩, by simp [intOf]; omega⟩
                · go_wp2_with fail
                  refine ⟨⟨j + 1, num, by omega, by go_num, mid_stuck HW.out hMid hk1 (HI.2 rfl), hR⟩, by simp [intOf]; omega⟩
              · by_cases hml : m < P.length
                · obtain ⟨⟨qa, qb⟩, hx⟩ : ∃ x, P[m]? = some x := ⟨_, List.getElem?_eq_getElem hml⟩
                  have hqr : hs L qa qb := (Hmem.out (qa, qb)).1 (List.mem_of_getElem? hx)
                  have Hx := hid_of hx
                  have hqa : qa < N := by have := hs_left hqr; rw [HW.out.len] at this; exact this
                  have hqn : qa < num.length := by rw [hMid.len]; exact hqa
                  obtain ⟨s, o, rfl, hsn, c1, c2⟩ := hR.prs m _ hx
                  have cq := hR.blk.cell (encA_at hqn)
                  clear hx
                  by_cases hbj : qb = j
                  · subst hbj
                    by_cases hz : gr num qa = 0
                    · rw [hz] at cq
                      go_wp2_with fail
                      refine ⟨⟨m + 1, false, by omega, rfl, by go_num, hR, inner_hit (x := (qa, qb)) hqr rfl (Or.inl hz)⟩, by simp [intOf]; omega⟩
                    · by_cases hq : gr num qa = k
                      · have hkz : ((k : Nat) : Int) ≠ 0 := by omega
                        rw [hq] at cq
                        go_wp2_with fail
                        refine ⟨⟨m + 1, false, by omega, rfl, by go_num, hR, inner_hit (x := (qa, qb)) hqr rfl (Or.inr hq)⟩, by simp [intOf]; omega⟩
                      · have HI2 := inner_skip HI Hx.out (fun _ => ⟨hz, hq⟩)
                        have hz2 : ((gr num qa : Nat) : Int) ≠ 0 := by omega
                        have hq2 : ((gr num qa : Nat) : Int) ≠ ((k : Nat) : Int) := by omega
                        have d1 : (((gr num qa : Nat) : Int) == 0) = false := beq_eq_false_iff_ne.2 hz2
                        have d2 : (((gr num qa : Nat) : Int) == ((k : Nat) : Int)) = false := beq_eq_false_iff_ne.2 hq2
                        clear HI hz hq hz2 hq2
                        generalize gr num qa = g at cq d1 d2
                        go_wp2_with fail
                        refine ⟨⟨m + 1, true, by omega, rfl, by go_num, hR, HI2⟩, by simp [intOf]; omega⟩
                  · have HI2 := inner_skip HI Hx.out (fun e => absurd e hbj)
                    have hb2 : ((qb : Nat) : Int) ≠ ((j : Nat) : Int) := by omega
                    clear HI hbj cq
                    go_wp2_with fail
                    refine ⟨⟨m + 1, true, by omega, rfl, by go_num, hR, HI2⟩, by simp [intOf]; omega⟩
                · obtain rfl : m = P.length := by omega
                  have cj := hR.blk.cell (encA_at hjn)
                  have fz := hR.blk.frozen j
                  obtain ⟨g0, gf⟩ := inner_all Hmem.out HI
                  have HM2 := mid_free hMid hjl hk1 g0 gf
                  have HR2 := hR.set j k
                  clear gf HI
                  go_wp2_with fail
                  refine ⟨⟨j + 1, num.set j k, by omega, by go_num, HM2, HR2⟩, by simp [intOf]; omega⟩
          · have hs0 := mid_stuck HW.out hMid hk1 (Or.inl h0)
            go_wp2_with fail
            clear cj
            go_loopw [8, 9] (fun f i wr => f = .bool false ∧ i = .int .i64 0 ∧ RisAt w wr p P nb num) (fun _ _ _ => 0)
            case atStart => exact ⟨by simp [h0], rfl, hR⟩
            case round =>
              clear hR
              obtain ⟨rfl, rfl, hR⟩ := hrel
              by_cases hml : 0 < P.length
              · go_wp2_with fail
                refine ⟨⟨j + 1, num, by omega, by go_num, hs0, hR⟩, by simp [intOf]; omega⟩
              · go_wp2_with fail
                refine ⟨⟨j + 1, num, by omega, by go_num, hs0, hR⟩, by simp [intOf]; omega⟩
        · obtain rfl : j = N := by omega
          go_wp2_with fail
          refine ⟨⟨k + 1, num, by omega, by omega, by go_num, mid_next hMid, hR⟩, by simp [intOf]; omega⟩
    · obtain rfl : k = N + 1 := by omega
      go_wp2_with fail
      go_loopw [10] (fun i wr => ∃ m, m ≤ P.length ∧ i = .int .i64 ((m : Nat) : Int) ∧ RisAt w wr p P nb num) (fun i _ => P.length - (intOf i).toNat)
      case atStart => exact ⟨0, by omega, rfl, hR⟩
      case round =>
        clear hR
        obtain ⟨m, hm, rfl, hR⟩ := hrel
        by_cases hml : m < P.length
        · obtain ⟨⟨qa, qb⟩, hx⟩ : ∃ x, P[m]? = some x := ⟨_, List.getElem?_eq_getElem hml⟩
          have hqr : hs L qa qb := (Hmem.out (qa, qb)).1 (List.mem_of_getElem? hx)
          have hqa : qa < N := by have := hs_left hqr; rw [HW.out.len] at this; exact this
          have hqb : qb < N := HW.out.low _ _ hqr
          obtain ⟨s, o, rfl, hsn, c1, c2⟩ := hR.prs m _ hx
          have ca := hR.blk.cell (encA_at (show qa < num.length by rw [hMid.len]; exact hqa))
          have cb := hR.blk.cell (encA_at (show qb < num.length by rw [hMid.len]; exact hqb))
          obtain ⟨e1, e2⟩ := mid_end HW.out hac.out hMid hqr
          have e3 : ((gr num qa : Nat) : Int) ≠ 0 := by omega
          have e4 : decide (((gr num qb : Nat) : Int) ≤ ((gr num qa : Nat) : Int)) = false := by rw [decide_eq_false_iff_not]; omega
          have e5 : (((gr num qa : Nat) : Int) == 0) = false := beq_eq_false_iff_ne.2 e3
          clear hx e1 e2 e3 hqr
          generalize gr num qa = ga at ca e4 e5
          generalize gr num qb = gb at cb e4
          have e6 : ¬ gb ≤ ga := by rw [decide_eq_false_iff_not] at e4; omega
          go_wp2_with fail
          go_quiet (fail)
          go_wp2_with fail
          refine ⟨?_, ?_⟩
          · repeat apply Exists.intro
            refine ⟨?_, rfl⟩
            exact ⟨m + 1, by omega, by go_num, hR.drewN _⟩
          · simp [intOf]
            omega
        · go_wp2_with fail
          go_ret
          exact ⟨rfl, hR.below⟩
theorem rises_calls (b c : Nat) (L : List Nat) (w : World) (h : IsRel w b c L) (hT : Tab w) (hac : ∀ p, ¬ TransGen (hs L) p p) :
    Calls Tryd.prog 38 #[pv b] w fun e w' => e = .returned (.bool true) ∧ Below w.heap.size w w' :=
  rises_at b c L w h hT hac _ rfl _ rfl (pairsL_short L h.len)
end Go.Proofs.YtpflelkdkpabbaaDoor
