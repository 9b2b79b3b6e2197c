/- The contract of the reference's Sort. -/
import Derived.Test.YteejkhgccaagiaaDoorR2Math
namespace Go.Proofs.YteejkhgccaagiaaDoor
open Go.RowKit Go.Shelf Sx

/-- What the reference's Sort keeps: its box, what is done, the list. -/
structure R2At (w W : World) (n : Nat) (A v : Value) (D : List Bool) (pts : List Nat) : Prop where
  below : Below w.heap.size w W
  box : Blk W w.heap.size 46 #[.int .i64 ((n : Nat) : Int), A]
  don : Blk W (w.heap.size + 1) 4 (arrB D)
  own : W.ownsRow (w.heap.size + 2) 3 1 v pts.length (encN pts)
theorem R2At.step {w W W' : World} {n : Nat} {A v : Value} {D : List Bool} {pts : List Nat} (h : R2At w W n A v D pts) (hb : Below W.heap.size W W') : R2At w W' n A v D pts :=
  ⟨below_step h.below h.below.size hb, h.box.of_below hb, h.don.of_below hb, owns_below' h.own hb⟩
theorem R2At.mark {w W : World} {n : Nat} {A v : Value} {D : List Bool} {pts : List Nat} (h : R2At w W n A v D pts) (p : Nat) : R2At w (W.setCell ⟨w.heap.size + 1, p, none⟩ (.bool true)) n A v (D.set p true) pts :=
  ⟨h.below.setCell (by simp) _, h.box.setOther (by simp) _, by have := h.don.set p (.bool true); rwa [arrB_set] at this, owns_set h.own (by simp) _⟩
theorem R2At.more {w W W' : World} {n : Nat} {A v v' : Value} {D : List Bool} {pts : List Nat} {p : Nat} (h : R2At w W n A v D pts)
    (hown : W'.ownsRow (w.heap.size + 2) 3 1 v' (pts.length + 1) (encN pts ++ [.int .i64 ((p : Nat) : Int)]))
    (hg : (W.alloc (.cells #[.int .i64 ((p : Nat) : Int)] 3)).grownBy W' v.ownBlock) : R2At w W' n A v' D (pts ++ [p]) := by
  have hlt := h.don.lt
  refine ⟨(h.below.alloc h.below.size _).grown hg (by simp; omega) (fun k e => by have := (h.own.lt k e).1; omega), ?_, ?_, ?_⟩
  · exact (hg.block _ (by simp; omega) (fun e => by have := (h.own.lt _ e.symm).1; omega)).trans (h.box.alloc _)
  · exact (hg.block _ (by simp; omega) (fun e => by have := (h.own.lt _ e.symm).1; omega)).trans (h.don.alloc _)
  · rw [show encN (pts ++ [p]) = encN pts ++ [.int .i64 ((p : Nat) : Int)] from by simp [encN], List.length_append]
    exact hown
theorem owns_sliceN {w : World} {base : Nat} {e : TypeId} {size : Nat} {v : Value} {n : Nat} {xs : List Value} (h : w.ownsRow base e size v n xs) : ∃ x y z, v = .slice x y z := owns_slice h
set_option maxRecDepth 100000 in
set_option maxHeartbeats 4000000 in
theorem r2sort_calls (lo n : Nat) (hn : n ≤ 256) (x : Option Addr) (y z : Nat) (rb : Nat → Nat) (F : Nat → Nat → Bool) (L : List Nat) (w : World) (h : RefM lo w (.slice x y z) n n rb F) (hL : n = L.length) (hT : TwO L.length F L) (hlow : ∀ R ∈ L, R < 2 ^ L.length) :
    Calls Tryd.prog 24 #[.agg #[.int .i64 ((n : Nat) : Int), .slice x y z]] w fun e w' => ∃ v code, e = .returned (.tuple #[v, .int .i64 code]) ∧ SortAns w w' L v code ∧ Below w.heap.size w w' := by
  obtain ⟨i0, hi, hz0, hz1, hz2⟩ := info_parts Tryd.infoint
  have hmk := make_bools n (by omega)
  have hA : R2At w ((w.alloc (.cells #[.int .i64 ((n : Nat) : Int), .slice x y z] 46)).alloc (.cells (arrB (List.replicate n false)) 4)) n (.slice x y z) (.slice none 0 0) (doneL n []) [] := by
    refine ⟨((Below.refl _ _).alloc (Nat.le_refl _) _).alloc (by simp) _, (Blk.new w _ _).alloc _, ?_, World.ownsRow_nil _ _ _ _⟩
    have := Blk.new (w.alloc (.cells #[.int .i64 ((n : Nat) : Int), .slice x y z] 46)) 4 (arrB (List.replicate n false))
    rw [World.size_alloc] at this
    rw [doneL_nil]
    exact this
  have b0 := hA.box.cell (j := 0) rfl
  have HA := hid_of hA
  have HT := hid_of hT
  have HLW := hid_of hlow
  have HLn := hid_of hL
  clear hA hT hlow hL
  go_enter Tryd.func24, Tryd.ntmps24
  go_wp2_with fail
  clear b0 hmk
  go_loopw [5, 6] (fun v i wr => ∃ (k : Nat) (pts : List Nat), k ≤ n ∧ i = .int .i64 k ∧ R2At w wr n (.slice x y z) v (doneL n pts) pts ∧ Hid (SrtAt L k pts) ∧ pts.length = k) (fun _ i _ => n - (intOf i).toNat)
  case atStart => exact ⟨0, [], by omega, rfl, HA.out, SrtAt.begin L, rfl⟩
  case round =>
    clear HA
    obtain ⟨k, pts, hk, rfl, hA, HS, hlen⟩ := hrel
    obtain ⟨vx, vy, vz, rfl⟩ := owns_sliceN hA.own
    have b0 := hA.box.cell (j := 0) rfl
    by_cases hlt : k < n
    · go_wp2_with fail
      clear b0
      go_loopw [7, 8] (fun nx i wr2 => ∃ (q : Nat) (nv : Int), q ≤ n ∧ nx = .int .i64 nv ∧ i = .int .i64 ((q : Int) - 1) ∧ Hid (LeastF n F (doneL n pts) q nv) ∧ R2At w wr2 n (.slice x y z) (.slice vx vy vz) (doneL n pts) pts) (fun _ i _ => (intOf i + 1).toNat)
      case atStart => exact ⟨n, -1, by omega, rfl, by go_num, LeastF.start _ _ _, hA⟩
      case round =>
        clear hA
        obtain ⟨q, nv, hq, rfl, rfl, HLF, hA⟩ := hrel
        by_cases hq0 : 0 < q
        · obtain ⟨q', rfl⟩ : ∃ q', q = q' + 1 := ⟨q - 1, by omega⟩
          have eq1 : (((q' + 1 : Nat) : Int)) - 1 = (q' : Int) := by omega
          rw [eq1]
          have b0 := hA.box.cell (j := 0) rfl
          have b1 := hA.box.cell (j := 1) rfl
          have hf := r2free_calls lo n hn x y z rb F (doneL n pts) (w.heap.size + 1) q' wr (h.below hA.below) hA.don (doneL_length _ _) (by omega)
          have g0 : (0 : Int) ≤ (q' : Int) := by omega
          cases hfr : freeF n F (doneL n pts) q'
          · rw [hfr] at hf
            have HLF2 := hid_of (HLF.out.no hfr)
            clear hfr
            go_wp2_with fail
            refine hf.mono ?_
            rintro e w2 ⟨rfl, hB2⟩
            have hA2 := hA.step hB2
            clear hf
            go_wp2_with fail
            refine ⟨⟨q', nv, by omega, rfl, by go_num, HLF2, hA2⟩, by first | (simp [intOf]; done) | (simp [intOf]; omega)⟩
          · rw [hfr] at hf
            have HLF2 := hid_of (LeastF.yes (n := n) (by omega) hfr)
            clear hfr
            go_wp2_with fail
            refine hf.mono ?_
            rintro e w2 ⟨rfl, hB2⟩
            have hA2 := hA.step hB2
            clear hf
            go_wp2_with fail
            refine ⟨⟨q', q', by omega, rfl, by go_num, HLF2, hA2⟩, by first | (simp [intOf]; done) | (simp [intOf]; omega)⟩
        · obtain rfl : q = 0 := by omega
          have HF : Hid (nv = fz (wAll L.length (pairsL L) pts)) := by
            have e := HLn.out
            have hh := HLF.out
            rw [e] at hh
            exact LeastF.fz HT.out (by omega) HLW.out hh
          have hm1 : ¬ (0 : Int) ≤ ((0 : Nat) : Int) - 1 := by omega
          by_cases hneg : nv < 0
          · go_wp2_with fail
            go_ret2
            have hst := HS.out.stuck (by have := HLn.out; omega) (by rw [← HF.out]; exact hneg)
            exact ⟨_, _, rfl, ⟨fun e => absurd e hst, fun _ => ⟨rfl, rfl⟩⟩, hA.below⟩
          · obtain ⟨p, rfl⟩ : ∃ p : Nat, nv = (p : Int) := ⟨nv.toNat, by omega⟩
            have hp := fz_new HF.out.symm
            have hpn : p < n := by rw [HLn.out]; exact hp.1
            have p0 : (0 : Int) ≤ (p : Int) := by omega
            have p1 : (p : Int) < (n : Int) := by omega
            have d0 := arrB_cell hA.don (i := p) (by rw [doneL_length]; exact hpn)
            have f0 := hA.don.frozen p
            have hA2 := hA.mark p
            rw [doneL_set] at hA2
            have HS2 := hid_of (HS.out.next (by have := HLn.out; omega) HF.out.symm)
            have hz : (wr.setCell ⟨w.heap.size + 1, p, none⟩ (.bool true)).heap.size = wr.heap.size := by simp [World.setCell]
            have hsz := hA.don.lt
            have HA2 := hid_of hA2
            clear hA2 hA HF HLF
            go_wp2_with (at_builtin; refine wpList_append_own_at _ rfl _ _ 29 rfl (w.heap.size + 2) 3 i0 (.int .i64 0) 1 8 Tryd.underlying29 hi hz0 hz1 hz2 rfl (by decide) (.slice vx vy vz) pts.length (encN pts) rfl (HA2.out.own.alloc _) ⟨_, 0, none⟩ 1 1 [.int .i64 p] rfl rfl (by intro k u hk; match k, hk with | 0, hk => simp at hk; subst hk; have h3 := (Blk.new (wr.setCell ⟨w.heap.size + 1, p, none⟩ (.bool true)) 3 #[.int .i64 ((p : Nat) : Int)]).cell (j := 0) rfl; rw [hz] at h3; exact h3) (by simp [Value.oneCell']) (by unfold maxLen; omega) (by omega) (by simp; omega) ?_; intro v' w5 hown' hgrow _ _; have hA5 := HA2.out.more hown' hgrow)
            refine ⟨⟨k + 1, pts ++ [p], by omega, by go_num, hA5, HS2, by simp; omega⟩, by simp [intOf]; omega⟩
    · obtain rfl : k = n := by omega
      go_wp2_with fail
      go_ret2
      refine ⟨_, _, rfl, ⟨fun _ => ⟨rfl, ?_⟩, fun e => ?_⟩, hA.below⟩
      · have hs := HS.out
        rw [HLn.out] at hs
        rw [hs.full]
        have := owns_lo hA.own (show w.heap.size ≤ w.heap.size + 2 by omega)
        rw [hlen, HLn.out] at this
        exact this
      · exfalso
        have hs := HS.out
        have hl2 := hlen
        rw [HLn.out] at hs hl2
        rw [hs.full] at e
        exact e hl2
end Go.Proofs.YteejkhgccaagiaaDoor
