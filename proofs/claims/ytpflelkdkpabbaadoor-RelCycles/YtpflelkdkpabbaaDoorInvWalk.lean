/- The contract of package rel's Inverse. -/
import Derived.Test.YtpflelkdkpabbaaDoorMarks
namespace Go.Proofs.YtpflelkdkpabbaaDoor
open Go.RowKit Go.Shelf Sx
attribute [local go_sem] Oper.semAt_some
theorem Len_i (n : Nat) (b c : Nat) (L : List Nat) (w : World) (h : IsRel w b c L) :
    CallsIn Fence.wide n Tryd.prog 25 #[pv b] w fun e w' => e = .returned (.int .i64 L.length) ∧ w = w' := callsIn_wide.2 (Len_c b c L w h)
theorem New_i (m n : Nat) (hn : n ≤ 256) (w : World) :
    CallsIn Fence.wide m Tryd.prog 13 #[.int .i64 n] w fun e w' => ∃ b c, e = .returned (pv b) ∧ Made w w' b c (List.replicate n 0) := callsIn_wide.2 (New_c n hn w)

def invIn (A : List Nat) (p : Nat) (l : List Nat) : List Nat := l.foldl (fun (A : List Nat) (q : Nat) => putP A (q : Int) (p : Int) true) A
theorem invIn_snoc (A : List Nat) (p : Nat) (l : List Nat) (q : Nat) : invIn A p (l ++ [q]) = putP (invIn A p l) q p true := by simp [invIn]
def invK (L : List Nat) (k : Nat) : List Nat := (List.range k).foldl (fun A p => invIn A p (bitsOf (gr L p))) (List.replicate L.length 0)
theorem invK_succ (L : List Nat) (k : Nat) : invK L (k + 1) = invIn (invK L k) k (bitsOf (gr L k)) := by simp [invK, List.range_succ]
def invL (L : List Nat) : List Nat := invK L L.length

set_option maxRecDepth 100000 in
set_option maxHeartbeats 2000000 in
theorem Inverse_in (ba ca : Nat) (L : List Nat) (w : World) (h : IsRel w ba ca L) (hT : Tab w) :
    CallsIn Fence.wide 6 Tryd.prog 16 #[pv ba] w fun e w' => ∃ b c, e = .returned (pv b) ∧ Made w w' b c (invL L) := by
  have hl := h.len
  refine callsIn_of_wp_marks Tryd.func16 rfl trivial ?_ rfl
  simp only [Tryd.ntmps16, List.size_toArray, List.length_cons, List.length_nil, Nat.reduceAdd, Nat.reduceSub, Array.replicate_succ, Array.replicate_zero, List.push_toArray, List.append_toArray, List.nil_append, List.cons_append]
  gi_wp2_with fail
  refine ⟨trivial, ?_⟩
  refine (Len_i _ ba ca L _ h).mono ?_
  rintro e w' ⟨rfl, rfl⟩
  gi_wp2_with fail
  refine ⟨trivial, ?_⟩
  refine (New_i _ L.length hl _).mono ?_
  rintro e w1 ⟨b, c, rfl, hM⟩
  have hh := (hM.old h).hcell
  have hb1 := (hM.old h).head.lt
  gi_wp2_with fail
  clear hh hb1
  have hs0 := hM.below.size
  have hcw1 := hM.rel.rows.lt
  refine wpIn_loop (fun a wr => ∃ (k : Nat) (Ds : List Nat) (u4 u5 u6 u16 u17 u18 u19 u20 u21 u22 u23 u24 u25 u26 u27 : Value), (k ≤ L.length ∧ Blk wr w1.heap.size 22 #[pv b] ∧ Made w wr b c (invK L k) ∧ Marks w.heap.size wr Ds) ∧ a = { tmps := #[pv ba, undef, .pointer none, pv w1.heap.size, u4, u5, u6, pv ba, .int .i64 L.length, pv b, pv ba, pv ba, pv ba, .slice (some ⟨ca, 0, none⟩) L.length L.length, .int .i64 L.length, .int .i64 k, u16, u17, u18, u19, u20, u21, u22, u23, u24, u25, u26, u27, undef], defers := Ds.map mark })
    (fun a _ => L.length - (intOf (a.tmps.getD 15 undef)).toNat) ?start ?round
  case start =>
    refine ⟨0, [], _, _, _, _, _, _, _, _, _, _, _, _, _, _, _, ⟨by omega, Blk.new w1 _ _, hM.alloc _, Marks.nil _ _⟩, rfl⟩
  case round =>
    clear hM
    rintro _ wr ⟨k, Ds, u4, u5, u6, u16, u17, u18, u19, u20, u21, u22, u23, u24, u25, u26, u27, ⟨hk, hbx, hM, hD⟩, rfl⟩
    by_cases hlt : k < L.length
    · have hro := hM.old h
      obtain ⟨hh, ⟨x0, x1, x2, x3⟩, _, q1, q2⟩ := hro.slots (gr_of hlt)
      have HE : Hid (_ = _) := invK_succ L k
      have hd : decide ((k : Int) < (L.length : Int)) = true := decide_eq_true (by omega)
      gi_wp2_with (refine ⟨trivial, ?_⟩; gi_at_call 42; refine (points_in Fence.wide _ trivial rfl (gr L k) _).mono ?_; rintro e w' ⟨rfl, rfl⟩)
      clear x0 x1 x2 x3 hh
      have hTr := hT.step hM.below
      have hs1 := hbx.lt
      have hs2 := hM.rel.head.lt
      have hs3 := hM.rel.rows.lt
      have hbc := hM.rel.ne
      have hcp : 0 < c := Nat.lt_of_lt_of_le hT.pos hM.hc
      have hDlt := hD.lt
      refine wpIn_rangeFunc_ownF rfl (by omega) (gf := 77) (lb := #[.pointer (some ⟨wr.heap.size + 1 + 1, 0, none⟩)]) rfl trivial (enters_of Tryd.func77 (by kernel_rfl) rfl)
        (points_stops (gr L k) (wr.heap.size + 1 + 1) (6 - 1) (by omega) _ ?hB ?hT) belowK_t (belowK_b (by simp)) (Below.refl _ _) (fun _ => rfl)
        (fun pre W => wr.heap.size + 1 + 1 + 1 ≤ W.heap.size ∧ Blk W w1.heap.size 22 #[pv b] ∧ Blk W wr.heap.size 3 #[.int .i64 k] ∧ Made w W b c (invIn (invK L k) k (vals pre)) ∧ Tab W ∧ Marks w.heap.size W Ds)
        (fun _ _ _ => False) ?hI (fun _ => ownFrom_false) ?h0
        (fun x => { tmps := #[pv ba, undef, .pointer none, pv w1.heap.size, pv wr.heap.size, pv (wr.heap.size + 1), .int .i64 ((x.1 : Nat) : Int), pv ba, .int .i64 L.length, pv b, pv ba, pv ba, pv ba, .slice (some ⟨ca, 0, none⟩) L.length L.length, .int .i64 L.length, .int .i64 k, .bool true, .int .i64 k, .pointer (some ⟨ca, k * 4, none⟩), rv (gr L k), rv (gr L k), .func (.func 77) #[] #[.pointer (some ⟨wr.heap.size + 1 + 1, 0, none⟩)], .int .i64 ((x.1 : Nat) : Int), u23, u24, u25, u26, u27, undef], defers := [] }) ?assign ?body ?done ?stop
      case hB => exact Blk.new3 _ _ _ _ _
      case hT => exact ((hTr.alloc _).alloc _).alloc _
      case hI =>
        refine ownFrom_old (fun s W hi => by simpa using hi.1) ?_
        rintro s W W' ⟨h1, h2, h3, h4, h5, h6⟩ hb'
        have hb' : Below (wr.heap.size + 1 + 1 + 1) W W' := by simpa using hb'
        exact ⟨Nat.le_trans h1 hb'.size, h2.below hb' (by omega), h3.below hb' (by omega), ⟨h4.rel.below' hb' (by omega) (by omega), h4.hb, h4.hc, h4.below.trans (hb'.mono (by have := hM.below.size; omega))⟩, h5.below hb' (by omega), h6.below hb' (fun D hD => by have := hDlt D hD; omega)⟩
      case h0 =>
        exact ⟨by simp, ((hbx.alloc _).alloc _).alloc _, ((Blk.new wr _ _).alloc _).alloc _, ((hM.alloc _).alloc _).alloc _, ((hTr.alloc _).alloc _).alloc _, hD.keeps (((KeepsOthers.alloc _ _).trans (KeepsOthers.alloc _ _)).trans (KeepsOthers.alloc _ _))⟩
      case assign =>
        intro l x W K hK
        gi_wp2
        exact hK
      case body =>
        rintro l pre x W ⟨h1, h2, h3, h4, h5, h6⟩ _
        have k0 : W.cell? ⟨w1.heap.size, 0, none⟩ = some (pv b) := h2.cell rfl
        have k1 : W.cell? ⟨wr.heap.size, 0, none⟩ = some (.int .i64 k) := h3.cell rfl
        gi_wp2_with (refine ⟨trivial, ?_⟩; gi_at_call 11; refine (CallsIn.inRound l (callsIn_wide.2 (Put_calls b c _ (x.1 : Nat) k true _ h4.rel))).mono ?_; rintro e w2 ⟨rfl, hI2, ht2⟩)
        refine ⟨keeps_of_touch ht2 h4.rel.rows, ht2.below hcp (by omega), Nat.le_trans h1 ht2.size, h2.touch ht2 (by omega), h3.touch ht2 (by omega), ?_, h5.touch ht2 hcp, h6.keeps (keeps_of_touch ht2 h4.rel.rows)⟩
        rw [vals_snoc, invIn_snoc]
        exact h4.touch hI2 ht2
      case done =>
        rintro D ys W hDD hys ⟨h1, h2, h3, h4, h5, h6⟩ hK
        rw [hys, ← HE.out] at h4
        gi_wp2
        have hm2 : Marks w.heap.size W (D :: Ds) := h6.cons hK (by simp at hDD; have := hM.below.size; omega) (fun E hE => by have := hDlt E hE; simp at hDD; omega)
        refine ⟨?_, ?_⟩
        · refine ⟨k + 1, D :: Ds, ?_⟩
          repeat apply Exists.intro
          exact ⟨⟨by omega, h2, h4, hm2⟩, rfl⟩
        · simp [intOf]; omega
      case stop =>
        rintro D c pre W _ _ h _
        exact h.elim
    · obtain rfl : k = L.length := by omega
      have k0 : wr.cell? ⟨w1.heap.size, 0, none⟩ = some (pv b) := hbx.cell rfl
      gi_wp2
      exact leave_marks hD ⟨_, results_tmp rfl _ _ _, b, c, rfl, shut_made hD hM⟩
theorem Inverse_calls (ba ca : Nat) (L : List Nat) (w : World) (h : IsRel w ba ca L) (hT : Tab w) :
    Calls Tryd.prog 16 #[pv ba] w fun e w' => ∃ b c, e = .returned (pv b) ∧ Made w w' b c (invL L) := callsIn_wide.1 (Inverse_in ba ca L w h hT)
end Go.Proofs.YtpflelkdkpabbaaDoor
