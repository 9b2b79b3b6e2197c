/- The contract of package order's Extensions. -/
import Derived.Test.YtmmgdeoballhpaaDoorJ19
import Derived.Test.YtmmgdeoballhpaaDoorJ12
import Derived.Maps.OwnIn
namespace Go.Proofs.YtmmgdeoballhpaaDoor
open Go.RowKit Go.Shelf Sx
attribute [local go_sem] Oper.semAt_some

theorem ret_ext {tmps : Array Value} {w : World} {g k : Nat} {x : Option Addr} {y z : Nat} {q : Bool} (hp : tmps.getD 4 undef = pv g) (hq : tmps.getD 5 undef = pv k) (hg : Blk w g 25 #[.slice x y z]) (hk : Blk w k 4 #[.bool q]) :
    (results Tryd.f12 tmps).run Tryd.prog w = .ok (.tuple #[.slice x y z, .bool q]) w := by
  have c1 := hg.cell (j := 0) rfl
  have c2 := hk.cell (j := 0) rfl
  rw [results_cc (p := 4) (q := 5) (ty := 25) (u := 4) rfl, hp, hq]
  simp [asAddr]
  go_simp
/-- What the loop keeps. -/
structure ExK (w : World) (most : Int) (s : ExS) (W : World) : Prop where
  j : ExJ (w.heap.size + 6) w.heap.size (w.heap.size + 1) (w.heap.size + 2) most s W
  bel : Below w.heap.size w W
  le : s.os.length ≤ most.toNat
/-- What is handed on. -/
structure ExG (w : World) (L : List Nat) (s : ExS) (o : List Nat) (v : Value) (W : World) : Prop where
  own : W.ownsRow (w.heap.size + 6) 3 1 v L.length (encN o)
  len : o.length = L.length
  far : ∀ k, v.ownBlock = some k → ¬ s.foot (w.heap.size + 6) w.heap.size (w.heap.size + 1) (w.heap.size + 2) k
  pre : ∃ r, s.os ++ o :: r = allO L
/-- Where the body returns. -/
structure ExB (w : World) (os : List (List Nat)) (W : World) : Prop where
  r : ∃ v vs, Blk W (w.heap.size + 1) 25 #[v] ∧ Blk W (w.heap.size + 2) 4 #[.bool false] ∧ ClR W (w.heap.size + 6) v vs (os.map toI)
  bel : Below w.heap.size w W
theorem encN_toJ (o : List Nat) : encN o = encJ (toI o) := by simp [encN, encJ, toI]
theorem ClR.kept {F : Nat → Prop} {W W' : World} {base : Nat} {v : Value} {vs : List Value} {ls : List (List Int)} (h : ClR W base v vs ls) (hk : KeptF F W W') (hF : ∀ b, base ≤ b → F b) : ClR W' base v vs ls :=
  ⟨owns_keep h.own (fun g e => hk.block g (hF g (h.own.lt g e).1)), h.rows.keep (fun _ _ g hx hg => hk.block g (hF g (h.rows.lt hx hg).1))⟩
theorem ClR.setLo {W : World} {base : Nat} {v : Value} {vs : List Value} {ls : List (List Int)} (h : ClR W base v vs ls) {a : Addr} (ha : a.block < base) (u : Value) : ClR (W.setCell a u) base v vs ls :=
  ⟨owns_set h.own ha u, h.rows.keep (fun _ _ g hx hg => Below.heap_setCell _ _ _ _ (by have := (h.rows.lt hx hg).1; omega))⟩
theorem take_pre {os r E : List (List Nat)} {o : List Nat} {m : Nat} (h : os ++ o :: r = E) (hm : os.length = m) : E.take m = os ∧ ¬ E.length ≤ m := by
  subst hm
  subst h
  simp
theorem shut_clr {n : Nat} {base : Nat} {v : Value} {vs : List Value} {ls : List (List Int)} {Ds : List Nat} {W : World} (hm : Marks n W Ds) (h : ClR W base v vs ls) : ClR (shut W Ds) base v vs ls :=
  ⟨shut_owns hm h.own, h.rows.len, fun i x l hx hl => shut_owns hm (h.rows.row i x l hx hl), h.rows.apart⟩
/-- What Extensions answers. -/
def ExtAns (w w' : World) (L : List Nat) (most : Int) (v : Value) (q : Bool) : Prop :=
  ∃ vs, ClR w' w.heap.size v vs (((allO L).take most.toNat).map toI) ∧ q = decide ((allO L).length ≤ most.toNat)
def ExtR (w : World) (L : List Nat) (most : Int) (e : Ending) (w' : World) : Prop := ∃ v q, e = .returned (.tuple #[v, .bool q]) ∧ ExtAns w w' L most v q ∧ Below w.heap.size w w'
set_option maxRecDepth 100000 in
set_option maxHeartbeats 4000000 in
theorem oExt_in (b c : Nat) (L : List Nat) (most : Int) (hm : most ≤ 1000) (w : World) (h : IsRel w b c L) (hT : Tab w) :
    CallsIn Fence.wide 6 Tryd.prog 12 #[pv b, .int .i64 most] w fun e w' => ExtR w L most e w' := by
  obtain ⟨i1, hJ, hy0, hy1, hy2⟩ := info_parts Tryd.infoints
  refine callsIn_of_wp_marks Tryd.func12 rfl trivial ?_ rfl
  simp only [Tryd.ntmps12, List.size_toArray, List.length_cons, List.length_nil, Nat.reduceAdd, Nat.reduceSub, Array.replicate_succ, Array.replicate_zero, List.push_toArray, List.append_toArray, List.nil_append, List.cons_append]
  gi_wp2_with (refine ⟨trivial, ?_⟩; gi_at_call 38; refine (oOrders_in Fence.wide _ trivial rfl b _).mono ?_; rintro e w' ⟨rfl, rfl⟩)
  obtain ⟨wA, hwA⟩ : ∃ wA, wA = (((w.alloc (.cells #[.int .i64 most] 3)).alloc (.cells #[.slice none 0 0] 25)).alloc (.cells #[.bool false] 4)).alloc (.cells #[pv b] 22) := ⟨_, rfl⟩
  have r3 : Blk wA w.heap.size 3 #[.int .i64 most] := by rw [hwA]; exact (((Blk.new w _ _).alloc _).alloc _).alloc _
  have r4 : Blk wA (w.heap.size + 1) 25 #[.slice none 0 0] := by rw [hwA]; exact ((Blk.new2 w _ _ _).alloc _).alloc _
  have r5 : Blk wA (w.heap.size + 2) 4 #[.bool false] := by rw [hwA]; exact (Blk.new3' w _ _ _ _).alloc _
  have r6 : Blk wA (w.heap.size + 3) 22 #[pv b] := by
    have := Blk.new (((w.alloc (.cells #[.int .i64 most] 3)).alloc (.cells #[.slice none 0 0] 25)).alloc (.cells #[.bool false] 4)) 22 #[pv b]
    rw [hwA]
    simpa using this
  have hBA : Below w.heap.size w wA := by rw [hwA]; exact ((((Below.refl _ w).alloc (Nat.le_refl _) _).alloc (by simp) _).alloc (by simp; omega) _).alloc (by simp; omega) _
  have hzA : wA.heap.size = w.heap.size + 4 := by rw [hwA]; simp
  rw [← hwA]
  clear hwA
  have hA := h.below hBA
  have hTA := hT.step hBA
  have hbc : b < w.heap.size ∧ c < w.heap.size := ⟨h.head.lt, h.rows.lt⟩
  clear h hT
  refine rf_many (by omega) (gf := 63) (lb := #[pv (w.heap.size + 3)]) rfl (enters_of Tryd.func63 (by kernel_rfl) rfl) rfl
    (σ := ExS) (ω := List Nat) ⟨[], [], .slice none 0 0⟩ (fun s => s.foot (w.heap.size + 6) w.heap.size (w.heap.size + 1) (w.heap.size + 2)) (fun s W => ExK w most s W) (fun s o v W => ExG w L s o v W) (fun s o s' => s'.os = s.os ++ [o])
    (fun W => ExB w ((allO L).take most.toNat) W ∧ ¬ (allO L).length ≤ most.toNat) (fun s => s.os = allO L) ?hfoot (fun s W k hJ hk => hJ.j.lt hk) ?hJ ?hG ?hBt ?h0 ?hf0 ?hgen
    (fun v => { tmps := #[pv b, .int .i64 most, undef, .pointer (some ⟨w.heap.size, 0, none⟩), .pointer (some ⟨w.heap.size + 1, 0, none⟩), .pointer (some ⟨w.heap.size + 2, 0, none⟩), v, pv b, .func (.func 63) #[] #[pv (w.heap.size + 3)], v, undef, undef, undef, undef, undef, undef, undef, undef, undef, undef], defers := [] }) ?assign ?body ?done ?stop
  case hfoot =>
    intro s k hk
    rcases hk with rfl | rfl | rfl | ⟨hk, _⟩ <;> omega
  case hJ =>
    intro s W W' hJ hk
    refine ⟨hJ.j.kept (hk.mono fun _ h => .inl h), ⟨hk.os.trans hJ.bel.os, hk.tape.trans hJ.bel.tape, hk.output.trans hJ.bel.output, Nat.le_trans hJ.bel.size hk.size, fun k hk' => (hk.block k (.inr (by omega))).trans (hJ.bel.block k hk')⟩, hJ.le⟩
  case hG =>
    intro s o v W W' hG hk
    exact ⟨owns_keep hG.own (fun g e => hk.block g (by have := (hG.own.lt g e).1; omega)), hG.len, hG.far, hG.pre⟩
  case hBt =>
    rintro W W' ⟨⟨⟨v, vs, h1, h2, h3⟩, h4⟩, h5⟩ hk
    exact ⟨⟨⟨v, vs, (hk.block _ (by omega)).trans h1, (hk.block _ (by omega)).trans h2, h3.kept hk (fun k hk => by omega)⟩, ⟨hk.os.trans h4.os, hk.tape.trans h4.tape, hk.output.trans h4.output, Nat.le_trans h4.size hk.size, fun k hk' => (hk.block k (by omega)).trans (h4.block k hk')⟩⟩, h5⟩
  case h0 => exact ⟨⟨r3, r4, r5, ClR.nil _ _, ⟨by omega, by omega, by omega⟩, ⟨by omega, by omega, by omega⟩⟩, hBA, Nat.zero_le _⟩
  case hf0 =>
    intro k hk
    rcases hk with rfl | rfl | rfl | ⟨_, hk | ⟨i, x, hx, _⟩⟩
    · omega
    · omega
    · omega
    · cases hk
    · cases hx
  case hgen =>
    intro W1 l Y Ye hl hb1 hs1 hY0 hYf hst hy
    refine (ord1_all b c (w.heap.size + 3) l wA.heap.size L (6 - 1) (by omega) W1 (hA.below hb1) (hTA.step hb1) (r6.of_below hb1) (σ := ExS) ⟨[], [], .slice none 0 0⟩ (fun s => s.foot (w.heap.size + 6) w.heap.size (w.heap.size + 1) (w.heap.size + 2)) (fun s => s.os) Y Ye ⟨by omega, by omega, by omega, by omega, by omega⟩ ?f0 rfl hY0 (fun s W' k h1 h2 => hYf s W' k h1 h2) (fun s W2 W' hy hk => hst s W2 W' hy (hk.mono fun k hb => hb.elim .inl (fun q => .inr (by omega)))) ?yy).mono ?en
    case f0 =>
      intro k hk
      rcases hk with rfl | rfl | rfl | ⟨_, hk | ⟨i, x, hx, _⟩⟩
      · omega
      · omega
      · omega
      · cases hk
      · cases hx
    case yy =>
      intro s o v W' hYs hown hlen hfar hpre
      refine (hy s o v W' hYs ⟨owns_lo hown (by omega), hlen, hfar, hpre⟩).mono ?_
      rintro e W2 (⟨rfl, s', hN, hY', hf, hK⟩ | ⟨rfl, hYe⟩)
      · exact ⟨true, rfl, fun _ => ⟨s', hN, hY', hf, hK⟩, fun e => by cases e⟩
      · exact ⟨false, rfl, fun e => (by cases e), fun _ => hYe⟩
    case en =>
      rintro e W' ⟨hr, ⟨s, h1, h2⟩ | h3⟩
      · exact ⟨hr, .inl ⟨s, h1, h2⟩⟩
      · exact ⟨hr, .inr h3⟩
  case assign =>
    intro l v W K hK
    gi_wp2
    exact hK
  case body =>
    clear r3 r4 r5 r6 hBA hA hTA
    rintro l ⟨os, vs, lv⟩ o v W hsz hK hG
    obtain ⟨la, lcap, hlv⟩ := owns_len hK.j.cl.own
    dsimp only at hlv
    subst hlv
    obtain ⟨x, y, z, rfl⟩ := owns_slice hG.own
    have q3 := hK.j.b3
    have q4 := hK.j.b4
    have q5 := hK.j.b5
    dsimp only at q4
    have c3 := q3.cell (j := 0) rfl
    have c4 := q4.cell (j := 0) rfl
    have c5 := q5.cell (j := 0) rfl
    have f4 := q4.frozen 0
    have f5 := q5.frozen 0
    have hvl : vs.length = os.length := by have := hK.j.cl.rows.len; simpa using this
    have HQ3 := hid_of q3
    have HQ4 := hid_of q4
    have HQ5 := hid_of q5
    have HK := hid_of hK
    have HG := hid_of hG
    have HVL := hid_of hvl
    have hle := hK.le
    dsimp only at hle
    rw [← hvl] at hle
    clear q3 q4 q5 hK hG hvl
    by_cases hge : most ≤ ((vs.length : Nat) : Int)
    · gi_wp2_with fail
      have e4 := (HQ4.out.set 0 (.slice la vs.length lcap)).setOther (a := ⟨w.heap.size + 2, 0, none⟩) (by simp) (.bool false)
      have e5 := (HQ5.out.setOther (a := ⟨w.heap.size + 1, 0, none⟩) (by simp) (.slice la vs.length lcap)).set 0 (.bool false)
      obtain ⟨r, hr⟩ := HG.out.pre
      have hml : os.length = most.toNat := by have := HVL.out; omega
      obtain ⟨t1, t2⟩ := take_pre hr hml
      refine ⟨(KeepsOthers.setCell _ _ _).trans (KeepsOthers.setCell _ _ _), ⟨⟨_, vs, by simpa using e4, by simpa using e5, ?_⟩, (HK.out.bel.setCell (by simp) _).setCell (by simp) _⟩, by omega⟩
      rw [t1]
      exact (HK.out.j.cl.setLo (by show w.heap.size + 1 < w.heap.size + 6; omega) _).setLo (by show w.heap.size + 2 < w.heap.size + 6; omega) _
    · have hlt1 : ((vs.length : Nat) : Int) < most := by omega
      have hnw := cell_one_new W (.slice x y z) 29
      have HNW := hid_of hnw
      clear hnw
      gi_wp2_with (gi_at_builtin; refine wpListIn_append_own_at _ rfl _ _ 25 rfl (w.heap.size + 6) 29 i1 (.slice none 0 0) 1 24 Tryd.underlying25 hJ hy0 hy1 hy2 rfl (by decide) (.slice la vs.length lcap) vs.length vs rfl (HK.out.j.cl.own.alloc _) ⟨_, 0, none⟩ 1 1 [.slice x y z] rfl rfl HNW.out (by simp [Value.oneCell']) (by unfold maxLen; omega) (by omega) (by simp; omega) ?_; intro v' w5 hown' hgrow _ hat; obtain ⟨va', vn', vc', rfl⟩ := owns_slice hown'; have hb4 : Blk w5 (w.heap.size + 1) 25 #[.slice la vs.length lcap] := (hgrow.block _ (by simp; omega) (fun e => by have := (HK.out.j.cl.own.lt _ e.symm).1; omega)).trans (HQ4.out.alloc _); have c4' := hb4.cell (j := 0) rfl; have f4' := hb4.frozen 0)
      have hown6 := HK.out.j.cl.own
      dsimp only at hown6
      have hne : ∀ k, (Value.slice la vs.length lcap).ownBlock = some k → w.heap.size + 6 ≤ k ∧ k < W.heap.size := fun k e => hown6.lt k e
      have hgb : ∀ k, k < W.heap.size → some k ≠ (Value.slice la vs.length lcap).ownBlock → w5.heap[k]? = W.heap[k]? := fun k hk hk2 => by
        rw [hgrow.block k (by simp; omega) hk2, Below.heap_alloc _ _ _ hk]
      have hlo : ∀ k, k < w.heap.size + 6 → k < W.heap.size → w5.heap[k]? = W.heap[k]? := fun k h1 h2 => hgb k h2 (fun e => by have := (hne k e.symm).1; omega)
      have hC5 := HK.out.j.cl.add (x := .slice x y z) (l := toI o) (by
        rw [toI_length, HG.out.len, ← encN_toJ]
        exact HG.out.own) (fun i y' g hy hg e => HG.out.far g e (Or.inr (Or.inr (Or.inr ⟨(HK.out.j.cl.rows.lt hy hg).1, Or.inr ⟨i, y', hy, hg⟩⟩)))) hown' hgrow
      have hC6 := hC5.setLo (a := ⟨w.heap.size + 1, 0, none⟩) (by show w.heap.size + 1 < w.heap.size + 6; omega) (.slice va' vn' vc')
      have b3' : Blk w5 w.heap.size 3 #[.int .i64 most] := (hlo _ (by omega) (by omega)).trans HQ3.out
      have b5' : Blk w5 (w.heap.size + 2) 4 #[.bool false] := (hlo _ (by omega) (by omega)).trans HQ5.out
      have hbel5 : Below w.heap.size w w5 := (HK.out.bel.alloc HK.out.bel.size _).grown hgrow (by simp; omega) (fun q e => by have := (hne q e).1; omega)
      have hbw := HK.out.bel.size
      refine ⟨((KeepsOthers.alloc _ _).trans (KeepsOthers.of_grownBy hgrow (fun k ob hk hob => ?_))).trans (KeepsOthers.setCell _ _ _), ⟨os ++ [o], vs ++ [.slice x y z], .slice va' vn' vc'⟩, rfl, ⟨⟨b3'.setOther (by simp) _, ?_, b5'.setOther (by simp) _, ?_, HK.out.j.ne, HK.out.j.lo⟩, hbel5.setCell (by simp) _, ?_⟩, fun k hk => ?_, ?_⟩
      · obtain ⟨cc, hcc⟩ := owns_blk (hown6.alloc (.cells #[.slice x y z] 29)) hk
        rw [show _ = _ from hcc] at hob
        injection hob with hob
        subst hob
        rfl
      · have := hb4.set 0 (.slice va' vn' vc')
        simpa using this
      · show ClR _ _ _ _ ((os ++ [o]).map toI)
        rw [List.map_append]
        exact hC6
      · show (os ++ [o]).length ≤ most.toNat
        have := HVL.out
        simp
        omega
      · rcases hk with hk | hk | hk | ⟨h6, hk | ⟨i, y', hy', hg'⟩⟩
        · exact .inl (Or.inl hk)
        · exact .inl (Or.inr (Or.inl hk))
        · exact .inl (Or.inr (Or.inr (Or.inl hk)))
        · rcases hat with e | e
          · exact .inl (Or.inr (Or.inr (Or.inr ⟨h6, Or.inl (e ▸ hk)⟩)))
          · rw [show (ExS.lv ⟨os ++ [o], vs ++ [.slice x y z], .slice va' vn' vc'⟩) = .slice va' vn' vc' from rfl, e] at hk
            simp at hk
            exact .inr (.inr (by omega))
        · rw [show (ExS.vs ⟨os ++ [o], vs ++ [.slice x y z], .slice va' vn' vc'⟩) = vs ++ [.slice x y z] from rfl] at hy'
          by_cases hi : i < vs.length
          · rw [List.getElem?_append_left hi] at hy'
            exact .inl (Or.inr (Or.inr (Or.inr ⟨h6, Or.inr ⟨i, y', hy', hg'⟩⟩)))
          · have hi2 : i = vs.length := by have := (List.getElem?_eq_some_iff.1 hy').1; simp at this; omega
            subst hi2
            rw [List.getElem?_append_right (Nat.le_refl _)] at hy'
            simp at hy'
            subst hy'
            exact .inr (.inl hg')
      · refine ⟨hgrow.os, hgrow.tape, hgrow.output, ?_, fun k hk => ?_⟩
        · have := hgrow.size
          simp [World.setCell] at this ⊢
          omega
        · have h1 : k ≠ w.heap.size + 1 := fun e => hk.2.1 (Or.inr (Or.inl e))
          rw [Below.heap_setCell _ _ _ _ h1]
          exact hgb k hk.1 (fun e => hk.2.1 (Or.inr (Or.inr (Or.inr ⟨(hne k e.symm).1, Or.inl e.symm⟩))))
  case done =>
    rintro ⟨os, vs, lv⟩ D W hDn hD hK hDD
    dsimp only at hDn
    subst hDn
    obtain ⟨la, lcap, hlv⟩ := owns_len hK.j.cl.own
    dsimp only at hlv
    subst hlv
    have q4 := hK.j.b4
    have q5 := hK.j.b5
    dsimp only at q4
    have c4 := q4.cell (j := 0) rfl
    have c5 := q5.cell (j := 0) rfl
    have f4 := q4.frozen 0
    have f5 := q5.frozen 0
    have HK := hid_of hK
    have HQ4 := hid_of q4
    have HQ5 := hid_of q5
    have hle := hK.le
    have HLE := hid_of hle
    clear q4 q5 hK hle
    gi_wp2_with fail
    have e4 := (HQ4.out.set 0 (.slice la vs.length lcap)).setOther (a := ⟨w.heap.size + 2, 0, none⟩) (by simp) (.bool true)
    have e5 := (HQ5.out.setOther (a := ⟨w.heap.size + 1, 0, none⟩) (by simp) (.slice la vs.length lcap)).set 0 (.bool true)
    have hC := (HK.out.j.cl.setLo (a := ⟨w.heap.size + 1, 0, none⟩) (by show w.heap.size + 1 < w.heap.size + 6; omega) (.slice la vs.length lcap)).setLo (a := ⟨w.heap.size + 2, 0, none⟩) (by show w.heap.size + 2 < w.heap.size + 6; omega) (.bool true)
    have hb2 : Below w.heap.size w ((W.setCell ⟨w.heap.size + 1, 0, none⟩ (.slice la vs.length lcap)).setCell ⟨w.heap.size + 2, 0, none⟩ (.bool true)) := (HK.out.bel.setCell (by simp) _).setCell (by simp) _
    have hmk : Marks w.heap.size ((W.setCell ⟨w.heap.size + 1, 0, none⟩ (.slice la vs.length lcap)).setCell ⟨w.heap.size + 2, 0, none⟩ (.bool true)) [D] := (Marks.nil _ _).cons ((Below.heap_setCell _ _ _ _ (by simp; omega)).trans ((Below.heap_setCell _ _ _ _ (by simp; omega)).trans hDD)) (by omega) (by simp)
    refine leave_marks hmk ⟨_, ret_ext rfl rfl (shut_blk hmk (by simpa using e4)) (shut_blk hmk (by simpa using e5)), _, _, rfl, ⟨vs, ?_, ?_⟩, hb2.trans (shut_below hmk)⟩
    · rw [List.take_of_length_le HLE.out]
      exact (shut_clr hmk hC).lo (by omega)
    · simp [HLE.out]
  case stop =>
    rintro D W hD ⟨⟨⟨v, vs, h1, h2, h3⟩, h4⟩, h5⟩ hDD
    obtain ⟨x, y, z, rfl⟩ := owns_slice h3.own
    gi_wp2_with fail
    have hmk : Marks w.heap.size W [D] := (Marks.nil _ _).cons hDD (by omega) (by simp)
    exact leave_marks hmk ⟨_, ret_ext rfl rfl (shut_blk hmk h1) (shut_blk hmk h2), _, _, rfl, ⟨vs, (shut_clr hmk h3).lo (by omega), by simp [h5]⟩, h4.trans (shut_below hmk)⟩
theorem oExt_calls (b c : Nat) (L : List Nat) (most : Int) (hm : most ≤ 1000) (w : World) (h : IsRel w b c L) (hT : Tab w) :
    Calls Tryd.prog 12 #[pv b, .int .i64 most] w fun e w' => ExtR w L most e w' := callsIn_wide.1 (oExt_in b c L most hm w h hT)
end Go.Proofs.YtmmgdeoballhpaaDoor
