/- The contract of package order's Extensions. -/
import Derived.Test.YtmmgdeoballhpaaDoorJ18
import Derived.Test.YtmmgdeoballhpaaDoorJ12
import Derived.Maps.OwnIn
import Derived.Test.YtmmgdeoballhpaaDoorJ17
import Derived.Test.YtmmgdeoballhpaaDoorJ15
import Derived.Test.YtmmgdeoballhpaaDoorJ09
namespace Go.Proofs.YtmmgdeoballhpaaDoor
open Go.RowKit Go.Shelf Sx
attribute [local go_sem] Oper.semAt_some

theorem ret_ext {tmps : Array Value} {w : World} {g k : Nat} {x : Option Addr} {y z : Nat} {q : Bool} (hp : tmps.getD 4 undef = pv g) (hq : tmps.getD 5 undef = pv k) (hg : Blk w g 25 #[.slice x y z]) (hk : Blk w k 4 #[.bool q]) :
    (results Tryd.f12 tmps).run Tryd.prog w = .ok (.tuple #[.slice x y z, .bool q]) w := by
  have c1 := hg.cell (j := 0) rfl
  have c2 := hk.cell (j := 0) rfl
  rw [results_cc (p := 4) (q := 5) (ty := 25) (u := 4) rfl, hp, hq]
  simp [asAddr]
  go_simp
/-- What the loop keeps. -/
structure ExK (w : World) (most : Int) (s : ExS) (W : World) : Prop where
  j : ExJ (w.heap.size + 6) w.heap.size (w.heap.size + 1) (w.heap.size + 2) most s W
  bel : Below w.heap.size w W
  le : s.os.length ≤ most.toNat
/-- What is handed on. -/
structure ExG (w : World) (L : List Nat) (s : ExS) (o : List Nat) (v : Value) (W : World) : Prop where
  own : W.ownsRow (w.heap.size + 6) 3 1 v L.length (encN o)
  len : o.length = L.length
  far : ∀ k, v.ownBlock = some k → ¬ s.foot (w.heap.size + 6) w.heap.size (w.heap.size + 1) (w.heap.size + 2) k
  pre : ∃ r, s.os ++ o :: r = allO L
/-- Where the body returns. -/
structure ExB (w : World) (os : List (List Nat)) (W : World) : Prop where
  r : ∃ v vs, Blk W (w.heap.size + 1) 25 #[v] ∧ Blk W (w.heap.size + 2) 4 #[.bool false] ∧ ClR W (w.heap.size + 6) v vs (os.map toI)
  bel : Below w.heap.size w W
theorem encN_toJ (o : List Nat) : encN o = encJ (toI o) := by simp [encN, encJ, toI]
theorem ClR.kept {F : Nat → Prop} {W W' : World} {base : Nat} {v : Value} {vs : List Value} {ls : List (List Int)} (h : ClR W base v vs ls) (hk : KeptF F W W') (hF : ∀ b, base ≤ b → F b) : ClR W' base v vs ls :=
  ⟨owns_keep h.own (fun g e => hk.block g (hF g (h.own.lt g e).1)), h.rows.keep (fun _ _ g hx hg => hk.block g (hF g (h.rows.lt hx hg).1))⟩
theorem ClR.setLo {W : World} {base : Nat} {v : Value} {vs : List Value} {ls : List (List Int)} (h : ClR W base v vs ls) {a : Addr} (ha : a.block < base) (u : Value) : ClR (W.setCell a u) base v vs ls :=
  ⟨owns_set h.own ha u, h.rows.keep (fun _ _ g hx hg => Below.heap_setCell _ _ _ _ (by have := (h.rows.lt hx hg).1; omega))⟩
theorem take_pre {os r E : List (List Nat)} {o : List Nat} {m : Nat} (h : os ++ o :: r = E) (hm : os.length = m) : E.take m = os ∧ ¬ E.length ≤ m := by
  subst hm
  subst h
  simp
theorem shut_clr {n : Nat} {base : Nat} {v : Value} {vs : List Value} {ls : List (List Int)} {Ds : List Nat} {W : World} (hm : Marks n W Ds) (h : ClR W base v vs ls) : ClR (shut W Ds) base v vs ls :=
  ⟨shut_owns hm h.own, h.rows.len, fun i x l hx hl => shut_owns hm (h.rows.row i x l hx hl), h.rows.apart⟩
/-- What Extensions answers. -/
def ExtAns (w w' : World) (L : List Nat) (most : Int) (v : Value) (q : Bool) : Prop :=
  ∃ vs, ClR w' w.heap.size v vs (((allO L).take most.toNat).map toI) ∧ q = decide ((allO L).length ≤ most.toNat)
def ExtR (w : World) (L : List Nat) (most : Int) (e : Ending) (w' : World) : Prop := ∃ v q, e = .returned (.tuple #[v, .bool q]) ∧ ExtAns w w' L most v q ∧ Below w.heap.size w w'
set_option maxRecDepth 100000 in
set_option maxHeartbeats 4000000 in
theorem oExt_in (b c : Nat) (L : List Nat) (most : Int) (hm : most ≤ 1000) (w : World) (h : IsRel w b c L) (hT : Tab w) :
    CallsIn Fence.wide 6 Tryd.prog 12 #[pv b, .int .i64 most] w fun e w' => ExtR w L most e w' := by
  obtain ⟨i1, hJ, hy0, hy1, hy2⟩ := info_parts Tryd.infoints
  refine callsIn_of_wp_marks Tryd.func12 rfl trivial ?_ rfl
  simp only [Tryd.ntmps12, List.size_toArray, List.length_cons, List.length_nil, Nat.reduceAdd, Nat.reduceSub, Array.replicate_succ, Array.replicate_zero, List.push_toArray, List.append_toArray, List.nil_append, List.cons_append]
  gi_wp2_with (refine ⟨trivial, ?_⟩; gi_at_call 38; refine (oOrders_in Fence.wide _ trivial rfl b _).mono ?_; rintro e w' ⟨rfl, rfl⟩)
  obtain ⟨wA, hwA⟩ : ∃ wA, wA = (((w.alloc (.cells #[.int .i64 most] 3)).alloc (.cells #[.slice none 0 0] 25)).alloc (.cells #[.bool false] 4)).alloc (.cells #[pv b] 22) := ⟨_, rfl⟩
  have r3 : Blk wA w.heap.size 3 #[.int .i64 most] := by rw [hwA]; exact (((Blk.new w _ _).alloc _).alloc _).alloc _
  have r4 : Blk wA (w.heap.size + 1) 25 #[.slice none 0 0] := by rw [hwA]; exact ((Blk.new2 w _ _ _).alloc _).alloc _
  have r5 : Blk wA (w.heap.size + 2) 4 #[.bool false] := by rw [hwA]; exact (Blk.new3' w _ _ _ _).alloc _
  have r6 : Blk wA (w.heap.size + 3) 22 #[pv b] := by
    have := Blk.new (((w.alloc (.cells #[.int .i64 most] 3)).alloc (.cells #[.slice none 0 0] 25)).alloc (.cells #[.bool false] 4)) 22 #[pv b]
    rw [hwA]
    simpa using this
  have hBA : Below w.heap.size w wA := by rw [hwA]; exact ((((Below.refl _ w).alloc (Nat.le_refl _) _).alloc (by simp) _).alloc (by simp; omega) _).alloc (by simp; omega) _
  have hzA : wA.heap.size = w.heap.size + 4 := by rw [hwA]; simp
  rw [← hwA]
  clear hwA
  have hA := h.below hBA
  have hTA := hT.step hBA
  have hbc : b < w.heap.size ∧ c < w.heap.size := ⟨h.head.lt, h.rows.lt⟩
  clear h hT
  refine rf_many (by omega) (gf := 63) (lb := #[pv (w.heap.size + 3)]) rfl (enters_of Tryd.func63 (by kernel_rfl) rfl) rfl
    (σ := ExS) (ω := List Nat) ⟨[], [], .slice none 0 0⟩ (fun s => s.foot (w.heap.size + 6) w.heap.size (w.heap.size + 1) (w.heap.size + 2)) (fun s W => ExK w most s W) (fun s o v W => ExG w L s o v W) (fun s o s' => s'.os = s.os ++ [o])
    (fun W => ExB w ((allO L).take most.toNat) W ∧ ¬ (allO L).length ≤ most.toNat) (fun s => s.os = allO L) ?hfoot (fun s W k hJ hk => hJ.j.lt hk) ?hJ ?hG ?hBt ?h0 ?hf0 ?hgen
    (fun v => { tmps := #[pv b, .int .i64 most, undef, .pointer (some ⟨w.heap.size, 0, none⟩), .pointer (some ⟨w.heap.size + 1, 0, none⟩), .pointer (some ⟨w.heap.size + 2, 0, none⟩), v, pv b, .func (.func 63) #[] #[pv (w.heap.size + 3)], v, undef, undef, undef, undef, undef, undef, undef, undef, undef, undef], defers := [] }) ?assign ?body ?done ?stop
  case hfoot =>
    intro s k hk
    rcases hk with rfl | rfl | rfl | ⟨hk, _⟩ <;> omega
  case hJ =>
    intro s W W' hJ hk
    refine ⟨hJ.j.kept (hk.mono fun _ h => .inl h), ⟨hk.os.trans hJ.bel.os, hk.tape.trans hJ.bel.tape, hk.output.trans hJ.bel.output, Nat.le_trans hJ.bel.size hk.size, fun k hk' => (hk.block k (.inr (by omega))).trans (hJ.bel.block k hk')⟩, hJ.le⟩
  case hG =>
    intro s o v W W' hG hk
    exact ⟨owns_keep hG.own (fun g e => hk.block g (by have := (hG.own.lt g e).1; omega)), hG.len, hG.far, hG.pre⟩
  case hBt =>
    rintro W W' ⟨⟨⟨v, vs, h1, h2, h3⟩, h4⟩, h5⟩ hk
    exact ⟨⟨⟨v, vs, (hk.block _ (by omega)).trans h1, (hk.block _ (by omega)).trans h2, h3.kept hk (fun k hk => by omega)⟩, ⟨hk.os.trans h4.os, hk.tape.trans h4.tape, hk.output.trans h4.output, Nat.le_trans h4.size hk.size, fun k hk' => (hk.block k (by omega)).trans (h4.block k hk')⟩⟩, h5⟩
  case h0 => exact ⟨⟨r3, r4, r5, ClR.nil _ _, ⟨by omega, by omega, by omega⟩, ⟨by omega, by omega, by omega⟩⟩, hBA, Nat.zero_le _⟩
  case hf0 =>
    intro k hk
    rcases hk with rfl | rfl | rfl | ⟨_, hk | ⟨i, x, hx, _⟩⟩
    · omega
    · omega
    · omega
    · cases hk
    · cases hx
  case hgen =>
    intro W1 l Y Ye hl hb1 hs1 hY0 hYf hst hy
    refine (ord1_all b c (w.heap.size + 3) l wA.heap.size L (6 - 1) (by omega) W1 (hA.below hb1) (hTA.step hb1) (r6.of_below hb1) (σ := ExS) ⟨[], [], .slice none 0 0⟩ (fun s => s.foot (w.heap.size + 6) w.heap.size (w.heap.size + 1) (w.heap.size + 2)) (fun s => s.os) Y Ye ⟨by omega, by omega, by omega, by omega, by omega⟩ ?f0 rfl hY0 (fun s W' k h1 h2 => hYf s W' k h1 h2) (fun s W2 W' hy hk => hst s W2 W' hy (hk.mono fun k hb => hb.elim .inl (fun q => .inr (by omega)))) ?yy).mono ?en
    case f0 =>
      intro k hk
      rcases hk with rfl | rfl | rfl | ⟨_, hk | ⟨i, x, hx, _⟩⟩
      · omega
      · omega
      · omega
      · cases hk
      · cases hx
    case yy =>
      intro s o v W' hYs hown hlen hfar hpre
      refine (hy s o v W' hYs ⟨owns_lo hown (by omega), hlen, hfar, hpre⟩).mono ?_
      rintro e W2 (⟨rfl, s', hN, hY', hf, hK⟩ | ⟨rfl, hYe⟩)
      · exact ⟨true, rfl, fun _ => ⟨s', hN, hY', hf, hK⟩, fun e => by cases e⟩
      · exact ⟨false, rfl, fun e => (by cases e), fun _ => hYe⟩
    case en =>
      rintro e W' ⟨hr, ⟨s, h1, h2⟩ | h3⟩
      · exact ⟨hr, .inl ⟨s, h1, h2⟩⟩
      · exact ⟨hr, .inr h3⟩
  case assign =>
    intro l v W K hK
    gi_wp2
    exact hK
  case body =>
    clear r3 r4 r5 r6 hBA hA hTA
    rintro l ⟨os, vs, lv⟩ o v W hsz hK hG
    obtain ⟨la, lcap, hlv⟩ := owns_len hK.j.cl.own
    dsimp only at hlv
    subst hlv
    obtain ⟨x, y, z, rfl⟩ := owns_slice hG.own
    have q3 := hK.j.b3
    have q4 := hK.j.b4
    have q5 := hK.j.b5
    dsimp only at q4
    have c3 := q3.cell (j := 0) rfl
    have c4 := q4.cell (j := 0) rfl
    have c5 := q5.cell (j := 0) rfl
    have f4 := q4.frozen 0
    have f5 := q5.frozen 0
    have hvl : vs.length = os.length := by have := hK.j.cl.rows.len; simpa using this
    have HQ3 := hid_of q3
    have HQ4 := hid_of q4
    have HQ5 := hid_of q5
    have HK := hid_of hK
    have HG := hid_of hG
    have HVL := hid_of hvl
    have hle := hK.le
    dsimp only at hle
    rw [← hvl] at hle
    clear q3 q4 q5 hK hG hvl
    by_cases hge : most ≤ ((vs.length : Nat) : Int)
    · gi_wp2_with fail
      have e4 := (HQ4.out.set 0 (.slice la vs.length lcap)).setOther (a := ⟨w.heap.size + 2, 0, none⟩) (by simp) (.bool false)
      have e5 := (HQ5.out.setOther (a := ⟨w.heap.size + 1, 0, none⟩) (by simp) (.slice la vs.length lcap)).set 0 (.bool false)
      obtain ⟨r, hr⟩ := HG.out.pre
      have hml : os.length = most.toNat := by have := HVL.out; omega
      obtain ⟨t1, t2⟩ := take_pre hr hml
      refine ⟨(KeepsOthers.setCell _ _ _).trans (KeepsOthers.setCell _ _ _), ⟨⟨_, vs, by simpa using e4, by simpa using e5, ?_⟩, (HK.out.bel.setCell (by simp) _).setCell (by simp) _⟩, by omega⟩
      rw [t1]
      exact (HK.out.j.cl.setLo (by show w.heap.size + 1 < w.heap.size + 6; omega) _).setLo (by show w.heap.size + 2 < w.heap.size + 6; omega) _
    · have hlt1 : ((vs.length : Nat) : Int) < most := by omega
      have hnw := cell_one_new W (.slice x y z) 29
      have HNW := hid_of hnw
      clear hnw
      gi_wp2_with (gi_at_builtin; refine wpListIn_append_own_at _ rfl _ _ 25 rfl (w.heap.size + 6) 29 i1 (.slice none 0 0) 1 24 Tryd.underlying25 hJ hy0 hy1 hy2 rfl (by decide) (.slice la vs.length lcap) vs.length vs rfl (HK.out.j.cl.own.alloc _) ⟨_, 0, none⟩ 1 1 [.slice x y z] rfl rfl HNW.out (by simp [Value.oneCell']) (by unfold maxLen; omega) (by omega) (by simp; omega) ?_; intro v' w5 hown' hgrow _ hat; obtain ⟨va', vn', vc', rfl⟩ := owns_slice hown'; have hb4 : Blk w5 (w.heap.size + 1) 25 #[.slice la vs.length lcap] := (hgrow.block _ (by simp; omega) (fun e => by have := (HK.out.j.cl.own.lt _ e.symm).1; omega)).trans (HQ4.out.alloc _); have c4' := hb4.cell (j := 0) rfl; have f4' := hb4.frozen 0)
      have hown6 := HK.out.j.cl.own
      dsimp only at hown6
      have hne : ∀ k, (Value.slice la vs.length lcap).ownBlock = some k → w.heap.size + 6 ≤ k ∧ k < W.heap.size := fun k e => hown6.lt k e
      have hgb : ∀ k, k < W.heap.size → some k ≠ (Value.slice la vs.length lcap).ownBlock → w5.heap[k]? = W.heap[k]? := fun k hk hk2 => by
        rw [hgrow.block k (by simp; omega) hk2, Below.heap_alloc _ _ _ hk]
      have hlo : ∀ k, k < w.heap.size + 6 → k < W.heap.size → w5.heap[k]? = W.heap[k]? := fun k h1 h2 => hgb k h2 (fun e => by have := (hne k e.symm).1; omega)
      have hC5 := HK.out.j.cl.add (x := .slice x y z) (l := toI o) (by
        rw [toI_length, HG.out.len, ← encN_toJ]
        exact HG.out.own) (fun i y' g hy hg e => HG.out.far g e (Or.inr (Or.inr (Or.inr ⟨(HK.out.j.cl.rows.lt hy hg).1, Or.inr ⟨i, y', hy, hg⟩⟩)))) hown' hgrow
      have hC6 := hC5.setLo (a := ⟨w.heap.size + 1, 0, none⟩) (by show w.heap.size + 1 < w.heap.size + 6; omega) (.slice va' vn' vc')
      have b3' : Blk w5 w.heap.size 3 #[.int .i64 most] := (hlo _ (by omega) (by omega)).trans HQ3.out
      have b5' : Blk w5 (w.heap.size + 2) 4 #[.bool false] := (hlo _ (by omega) (by omega)).trans HQ5.out
      have hbel5 : Below w.heap.size w w5 := (HK.out.bel.alloc HK.out.bel.size _).grown hgrow (by simp; omega) (fun q e => by have := (hne q e).1; omega)
      have hbw := HK.out.bel.size
      refine ⟨((KeepsOthers.alloc _ _).trans (KeepsOthers.of_grownBy hgrow (fun k ob hk hob => ?_))).trans (KeepsOthers.setCell _ _ _), ⟨os ++ [o], vs ++ [.slice x y z], .slice va' vn' vc'⟩, rfl, ⟨⟨b3'.setOther (by simp) _, ?_, b5'.setOther (by simp) _, ?_, HK.out.j.ne, HK.out.j.lo⟩, hbel5.setCell (by simp) _, ?_⟩, fun k hk => ?_, ?_⟩
      · obtain ⟨cc, hcc⟩ := owns_blk (hown6.alloc (.cells #[.slice x y z] 29)) hk
        rw [show _ = _ from hcc] at hob
        injection hob with hob
        subst hob
        rfl
      · have := hb4.set 0 (.slice va' vn' vc')
        simpa using this
      · show ClR _ _ _ _ ((os ++ [o]).map toI)
        rw [List.map_append]
        exact hC6
      · show (os ++ [o]).length ≤ most.toNat
        have := HVL.out
        simp
        omega
      · rcases hk with hk | hk | hk | ⟨h6, hk | ⟨i, y', hy', hg'⟩⟩
        · exact .inl (Or.inl hk)
        · exact .inl (Or.inr (Or.inl hk))
        · exact .inl (Or.inr (Or.inr (Or.inl hk)))
        · rcases hat with e | e
          · exact .inl (Or.inr (Or.inr (Or.inr ⟨h6, Or.inl (e ▸ hk)⟩)))
          · rw [show (ExS.lv ⟨os ++ [o], vs ++ [.slice x y z], .slice va' vn' vc'⟩) = .slice va' vn' vc' from rfl, e] at hk
            simp at hk
            exact .inr (.inr (by omega))
        · rw [show (ExS.vs ⟨os ++ [o], vs ++ [.slice x y z], .slice va' vn' vc'⟩) = vs ++ [.slice x y z] from rfl] at hy'
          by_cases hi : i < vs.length
          · rw [List.getElem?_append_left hi] at hy'
            exact .inl (Or.inr (Or.inr (Or.inr ⟨h6, Or.inr ⟨i, y', hy', hg'⟩⟩)))
          · have hi2 : i = vs.length := by have := (List.getElem?_eq_some_iff.1 hy').1; simp at this; omega
            subst hi2
            rw [List.getElem?_append_right (Nat.le_refl _)] at hy'
            simp at hy'
            subst hy'
            exact .inr (.inl hg')
      · refine ⟨hgrow.os, hgrow.tape, hgrow.output, ?_, fun k hk => ?_⟩
        · have := hgrow.size
          simp [World.setCell] at this ⊢
          omega
        · have h1 : k ≠ w.heap.size + 1 := fun e => hk.2.1 (Or.inr (Or.inl e))
          rw [Below.heap_setCell _ _ _ _ h1]
          exact hgb k hk.1 (fun e => hk.2.1 (Or.inr (Or.inr (Or.inr ⟨(hne k e.symm).1, Or.inl e.symm⟩))))
  case done =>
    rintro ⟨os, vs, lv⟩ D W hDn hD hK hDD
    dsimp only at hDn
    subst hDn
    obtain ⟨la, lcap, hlv⟩ := owns_len hK.j.cl.own
    dsimp only at hlv
    subst hlv
    have q4 := hK.j.b4
    have q5 := hK.j.b5
    dsimp only at q4
    have c4 := q4.cell (j := 0) rfl
    have c5 := q5.cell (j := 0) rfl
    have f4 := q4.frozen 0
    have f5 := q5.frozen 0
    have HK := hid_of hK
    have HQ4 := hid_of q4
    have HQ5 := hid_of q5
    have hle := hK.le
    have HLE := hid_of hle
    clear q4 q5 hK hle
    gi_wp2_with fail
    have e4 := (HQ4.out.set 0 (.slice la vs.length lcap)).setOther (a := ⟨w.heap.size + 2, 0, none⟩) (by simp) (.bool true)
    have e5 := (HQ5.out.setOther (a := ⟨w.heap.size + 1, 0, none⟩) (by simp) (.slice la vs.length lcap)).set 0 (.bool true)
    have hC := (HK.out.j.cl.setLo (a := ⟨w.heap.size + 1, 0, none⟩) (by show w.heap.size + 1 < w.heap.size + 6; omega) (.slice la vs.length lcap)).setLo (a := ⟨w.heap.size + 2, 0, none⟩) (by show w.heap.size + 2 < w.heap.size + 6; omega) (.bool true)
    have hb2 : Below w.heap.size w ((W.setCell ⟨w.heap.size + 1, 0, none⟩ (.slice la vs.length lcap)).setCell ⟨w.heap.size + 2, 0, none⟩ (.bool true)) := (HK.out.bel.setCell (by simp) _).setCell (by simp) _
    have hmk : Marks w.heap.size ((W.setCell ⟨w.heap.size + 1, 0, none⟩ (.slice la vs.length lcap)).setCell ⟨w.heap.size + 2, 0, none⟩ (.bool true)) [D] := (Marks.nil _ _).cons ((Below.heap_setCell _ _ _ _ (by simp; omega)).trans ((Below.heap_setCell _ _ _ _ (by simp; omega)).trans hDD)) (by omega) (by simp)
    refine leave_marks hmk ⟨_, ret_ext rfl rfl (shut_blk hmk (by simpa using e4)) (shut_blk hmk (by simpa using e5)), _, _, rfl, ⟨vs, ?_, ?_⟩, hb2.trans (shut_below hmk)⟩
    · rw [List.take_of_length_le HLE.out]
      exact (shut_clr hmk hC).lo (by omega)
    · simp [HLE.out]
  case stop =>
    rintro D W hD ⟨⟨⟨v, vs, h1, h2, h3⟩, h4⟩, h5⟩ hDD
    obtain ⟨x, y, z, rfl⟩ := owns_slice h3.own
    gi_wp2_with fail
    have hmk : Marks w.heap.size W [D] := (Marks.nil _ _).cons hDD (by omega) (by simp)
    exact leave_marks hmk ⟨_, ret_ext rfl rfl (shut_blk hmk h1) (shut_blk hmk h2), _, _, rfl, ⟨vs, (shut_clr hmk h3).lo (by omega), by simp [h5]⟩, h4.trans (shut_below hmk)⟩
theorem oExt_calls (b c : Nat) (L : List Nat) (most : Int) (hm : most ≤ 1000) (w : World) (h : IsRel w b c L) (hT : Tab w) :
    Calls Tryd.prog 12 #[pv b, .int .i64 most] w fun e w' => ExtR w L most e w' := callsIn_wide.1 (oExt_in b c L most hm w h hT)
end Go.Proofs.YtmmgdeoballhpaaDoor
/- The contract of the reference's Glue, walked. -/
namespace Go.Proofs.YtmmgdeoballhpaaDoor
open Go.RowKit Go.Shelf Sx

theorem news_int (w : World) (p : Nat) : ∀ j u, ([.int .i64 ((p : Nat) : Int)] : List Value)[j]? = some u → (w.alloc (.cells #[.int .i64 ((p : Nat) : Int)] 3)).cell? ((⟨w.heap.size, 0, none⟩ : Addr).add j) = some u := by
  intro j u hj
  rw [Addr.add_lit, Nat.zero_add]
  exact (Blk.new w 3 #[.int .i64 ((p : Nat) : Int)]).cell (by simpa using hj)
set_option maxRecDepth 100000 in
set_option maxHeartbeats 16000000 in
theorem r2glue_calls (lo n : Nat) (hn : n ≤ 256) (x : Option Addr) (y z : Nat) (rb : Nat → Nat) (F : Nat → Nat → Bool) (L : List Nat) (vp : Value) (l : List (Int × Int)) (w : World) (h : RefM lo w (.slice x y z) n n rb F) (hL : n = L.length) (hT : TwO L.length F L) (hlow : ∀ R ∈ L, R < 2 ^ L.length) (hv : ∃ p cap, vp = .slice p l.length cap ∧ (0 < l.length → ∃ s o, p = some ⟨s, o, none⟩ ∧ PairsAt w s o l)) (hm : l.length ≤ 9223372036854775807) :
    Calls Tryd.prog 35 #[.agg #[.int .i64 ((n : Nat) : Int), .slice x y z], vp] w fun e w' => GlueR w w' (glueF L l) e ∧ Below w.heap.size w w' := by
  obtain ⟨p, cap, rfl, hp⟩ := hv
  obtain ⟨i0, hi, hz0, hz1, hz2⟩ := info_parts Tryd.infoint
  have hmi := fun W => make_ints n (by omega) W
  have hmb := fun W => make_bools n (by omega) W
  have HP := hid_of hp
  have HT := hid_of hT
  have HLW := hid_of hlow
  have HLn := hid_of hL
  have hA0 : G1 w (((w.alloc (.cells #[.int .i64 ((n : Nat) : Int), .slice x y z] 46)).alloc (.cells (intsA (List.replicate n 0)) 3)).alloc (.cells (intsA (List.replicate n 0)) 3)) n (.slice x y z) (List.replicate n 0) (List.replicate n 0) := by
    refine ⟨(((Below.refl _ _).alloc (Nat.le_refl _) _).alloc (by simp) _).alloc (by simp; omega) _, ((Blk.new w _ _).alloc _).alloc _, ?_, ?_⟩
    · have := Blk.new (w.alloc (.cells #[.int .i64 ((n : Nat) : Int), .slice x y z] 46)) 3 (intsA (List.replicate n 0))
      rw [World.size_alloc] at this
      exact this.alloc _
    · have := Blk.new ((w.alloc (.cells #[.int .i64 ((n : Nat) : Int), .slice x y z] 46)).alloc (.cells (intsA (List.replicate n 0)) 3)) 3 (intsA (List.replicate n 0))
      rw [World.size_alloc, World.size_alloc] at this
      exact this
  have b0 : (w.alloc (.cells #[.int .i64 ((n : Nat) : Int), .slice x y z] 46)).cell? ⟨w.heap.size, 0, none⟩ = some (.int .i64 ((n : Nat) : Int)) := (Blk.new w _ _).cell rfl
  have HA0 := hid_of hA0
  clear hp hT hlow hL hA0
  go_enter Tryd.func35, Tryd.ntmps35
  go_wp2_with fail
  clear b0
  go_loopg [8] n (fun f i wr => ∃ k : Nat, i = .int .i64 ((k : Nat) : Int) ∧ k ≤ n ∧ Hid (k + f = n) ∧ Hid (G1 w wr n (.slice x y z) (upTo n k (fun q => ((q : Nat) : Int))) (upTo n k (fun _ => -1))))
  case atStart => exact ⟨0, rfl, Nat.zero_le _, Nat.zero_add _, by rw [upTo_zero, upTo_zero]; exact HA0.out⟩
  case round =>
    clear HA0
    obtain ⟨k, rfl, hk, HKF, HA⟩ := hrel
    have b0 : wr.cell? ⟨w.heap.size, 0, none⟩ = some (.int .i64 ((n : Nat) : Int)) := HA.out.box.cell rfl
    by_cases hlt : k < n
    · obtain ⟨v1, c1⟩ := cell_upTo HA.out.of_ hlt
      obtain ⟨v2, c2⟩ := cell_upTo HA.out.nx hlt
      have f1 := HA.out.of_.frozen k
      have f2 := HA.out.nx.frozen k
      have k0 : (0 : Int) ≤ ((k : Nat) : Int) := by omega
      have k1 : ((k : Nat) : Int) < ((n : Nat) : Int) := by omega
      have hA2 := (HA.out.setO k ((k : Nat) : Int)).setX k (-1)
      rw [upTo_set (fun q => ((q : Nat) : Int)) hlt, upTo_set (fun _ => -1) hlt] at hA2
      go_wp2_with fail
      go_roundg (n - (k + 1))
      case measure => have := HKF.out; omega
      case rel => exact ⟨k + 1, by go_num, by omega, by have := HKF.out; rw [Hid]; omega, hA2⟩
    · obtain rfl : k = n := by omega
      have hA1 := HA.out
      rw [upTo_all, upTo_all] at hA1
      have hlo3 : w.heap.size + 3 ≤ wr.heap.size := hA1.nx.lt
      have hG0 : GAt w (wr.alloc (.cells (arrB (List.replicate k false)) 4)) k (.slice x y z) wr.heap.size (List.range k) (List.replicate k (-1)) (List.replicate k false) := by
        refine ⟨?_, Blk.new wr _ _, hlo3⟩
        have := hA1.step ((Below.refl wr.heap.size wr).alloc (Nat.le_refl _) (.cells (arrB (List.replicate k false)) 4))
        have e : (List.range k).map (fun _ => (-1 : Int)) = List.replicate k (-1) := by
          apply List.ext_getElem?
          intro i
          by_cases hi : i < k
          · simp [hi]
          · simp [hi]
        rw [e] at this
        exact this
      have HG0 := hid_of hG0
      clear hG0 hA1 HA
      go_wp2_with fail
      generalize (wr.alloc (.cells (arrB (List.replicate k false)) 4)) = wA at *
      generalize wr.heap.size = ub at *
      clear b0 hlt hk
      go_loopg [10] l.length (fun f i wq => ∃ (j : Nat) (O : List Nat) (X : List Int) (U : List Bool) (bs : List (List Nat)), i = .int .i64 ((j : Nat) : Int) ∧ j ≤ l.length ∧ Hid (j + f = l.length) ∧ Hid (GAt w wq k (.slice x y z) ub O X U) ∧ Hid (GlOf k bs O X U) ∧ Hid (gluF k l (glInit k) = gluF k (l.drop j) bs))
      case atStart => exact ⟨0, _, _, _, _, rfl, Nat.zero_le _, Nat.zero_add _, HG0.out, GlOf.start k, rfl⟩
      case round =>
        clear HG0
        obtain ⟨j, O, X, U, bs, rfl, hj, HJF, HA, HG, HGL⟩ := hrel
        have b0 : wr.cell? ⟨w.heap.size, 0, none⟩ = some (.int .i64 ((k : Nat) : Int)) := HA.out.g1.box.cell rfl
        by_cases hlt : j < l.length
        · have j0 : (0 : Int) ≤ ((j : Nat) : Int) := by omega
          have j1 : ((j : Nat) : Int) < ((l.length : Nat) : Int) := by omega
          obtain ⟨s, o, rfl, hs⟩ := HP.out (by omega)
          obtain ⟨⟨a, b⟩, hx⟩ : ∃ x, l[j]? = some x := ⟨_, List.getElem?_eq_getElem hlt⟩
          have c0 := (hs.below HA.out.g1.below).fst j _ hx
          have c1 := (hs.below HA.out.g1.below).snd j _ hx
          have HE := hid_of (HGL.out.trans (gluF_step hx))
          have hfa := HG.out.free a
          have hfb := HG.out.free b
          simp only [] at c0 c1
          clear hx
          have HERRF : Hid (¬ (a ≠ b ∧ freeB k bs a = true ∧ freeB k bs b = true) → glueF L l = ([], 1)) := by
            intro hc
            have hlL := HLn.out
            have hn : gluF L.length l (glInit L.length) = none := by
              rw [← hlL]
              exact HE.out.trans (if_neg hc)
            unfold glueF glB
            rw [hn]
            rfl
          by_cases ha0 : a < 0
          · have hno : ¬ (a ≠ b ∧ freeB k bs a = true ∧ freeB k bs b = true) := by
              rintro ⟨_, h2, _⟩
              rw [hfa, Bool.and_eq_true] at h2
              have := of_decide_eq_true h2.1
              omega
            clear hfa hfb
            have HERR := hid_of (HERRF.out hno)
            clear HERRF HE
            go_wp2_with fail
            go_ret2
            exact ⟨by rw [HERR.out]; exact ⟨_, rfl, (fun e => absurd e (by decide)), fun _ => rfl⟩, HA.out.g1.below⟩
          · have a0 : ¬ a < 0 := ha0
            by_cases ha1 : (k : Int) ≤ a
            · have hno : ¬ (a ≠ b ∧ freeB k bs a = true ∧ freeB k bs b = true) := by
                rintro ⟨_, h2, _⟩
                rw [hfa, Bool.and_eq_true] at h2
                have := of_decide_eq_true h2.1
                omega
              clear hfa hfb
              have HERR := hid_of (HERRF.out hno)
              clear HERRF HE
              go_wp2_with fail
              go_ret2
              exact ⟨by rw [HERR.out]; exact ⟨_, rfl, (fun e => absurd e (by decide)), fun _ => rfl⟩, HA.out.g1.below⟩
            · have a1 : ¬ (k : Int) ≤ a := ha1
              by_cases hb0 : b < 0
              · have hno : ¬ (a ≠ b ∧ freeB k bs a = true ∧ freeB k bs b = true) := by
                  rintro ⟨_, _, h2⟩
                  rw [hfb, Bool.and_eq_true] at h2
                  have := of_decide_eq_true h2.1
                  omega
                clear hfa hfb
                have HERR := hid_of (HERRF.out hno)
                clear HERRF HE
                go_wp2_with fail
                go_ret2
                exact ⟨by rw [HERR.out]; exact ⟨_, rfl, (fun e => absurd e (by decide)), fun _ => rfl⟩, HA.out.g1.below⟩
              · have b00 : ¬ b < 0 := hb0
                by_cases hb1 : (k : Int) ≤ b
                · have hno : ¬ (a ≠ b ∧ freeB k bs a = true ∧ freeB k bs b = true) := by
                    rintro ⟨_, _, h2⟩
                    rw [hfb, Bool.and_eq_true] at h2
                    have := of_decide_eq_true h2.1
                    omega
                  clear hfa hfb
                  have HERR := hid_of (HERRF.out hno)
                  clear HERRF HE
                  go_wp2_with fail
                  go_ret2
                  exact ⟨by rw [HERR.out]; exact ⟨_, rfl, (fun e => absurd e (by decide)), fun _ => rfl⟩, HA.out.g1.below⟩
                · have b1 : ¬ (k : Int) ≤ b := hb1
                  obtain ⟨a', rfl⟩ : ∃ a' : Nat, a = ((a' : Nat) : Int) := ⟨a.toNat, by omega⟩
                  obtain ⟨b', rfl⟩ : ∃ b' : Nat, b = ((b' : Nat) : Int) := ⟨b.toNat, by omega⟩
                  rw [Int.toNat_natCast] at hfa hfb
                  have ha' : a' < k := by omega
                  have hb' : b' < k := by omega
                  have p0 : (0 : Int) ≤ ((a' : Nat) : Int) := by omega
                  have p1 : ((a' : Nat) : Int) < ((k : Nat) : Int) := by omega
                  have p2 : (0 : Int) ≤ ((b' : Nat) : Int) := by omega
                  have p3 : ((b' : Nat) : Int) < ((k : Nat) : Int) := by omega
                  by_cases hab : a' = b'
                  · have hno : ¬ (((a' : Nat) : Int) ≠ ((b' : Nat) : Int) ∧ freeB k bs ((a' : Nat) : Int) = true ∧ freeB k bs ((b' : Nat) : Int) = true) := fun hc => hc.1 (by rw [hab])
                    have q1 : (((a' : Nat) : Int) == ((b' : Nat) : Int)) = true := by simp [hab]
                    clear hfa hfb hab
                    have HERR := hid_of (HERRF.out hno)
                    clear HERRF HE
                    go_wp2_with fail
                    go_ret2
                    exact ⟨by rw [HERR.out]; exact ⟨_, rfl, (fun e => absurd e (by decide)), fun _ => rfl⟩, HA.out.g1.below⟩
                  · have q1 : (((a' : Nat) : Int) == ((b' : Nat) : Int)) = false := by rw [beq_eq_false_iff_ne]; omega
                    have ua := arrB_cell HA.out.us (i := a') (by rw [HG.out.lu]; exact ha')
                    have ub' := arrB_cell HA.out.us (i := b') (by rw [HG.out.lu]; exact hb')
                    cases hua : U.getD a' false
                    · cases hub : U.getD b' false
                      · rw [hua] at ua
                        rw [hub] at ub'
                        have HG2 := hid_of (HG.out.step ha' hb' hab hua hub)
                        have hok : ((a' : Nat) : Int) ≠ ((b' : Nat) : Int) ∧ freeB k bs ((a' : Nat) : Int) = true ∧ freeB k bs ((b' : Nat) : Int) = true := by
                          refine ⟨by omega, ?_, ?_⟩
                          · rw [hfa, hua, Bool.not_false, Bool.and_true]
                            exact decide_eq_true (by omega)
                          · rw [hfb, hub, Bool.not_false, Bool.and_true]
                            exact decide_eq_true (by omega)
                        have HE2 := hid_of (HE.out.trans (if_pos hok))
                        rw [Int.toNat_natCast, Int.toNat_natCast] at HE2
                        have hA2 := HA.out.pair a' b'
                        have uf1 := HA.out.us.frozen a'
                        have uf2 := HA.out.us.frozen b'
                        have o1 := cellI_getD HA.out.g1.of_ (i := b') (by rw [toI_length, HG.out.lo]; exact hb')
                        have of1 := HA.out.g1.of_.frozen b'
                        have n1 := cellI_getD HA.out.g1.nx (i := a') (by rw [HG.out.lx]; exact ha')
                        have nf1 := HA.out.g1.nx.frozen a'
                        have hlo := HA.out.lo
                        have s1 : ¬ ub = w.heap.size + 1 := by omega
                        have s2 : ¬ ub = w.heap.size + 2 := by omega
                        have s3 : ¬ b' = a' := fun e => hab e.symm
                        generalize (toI O).getD b' 0 = ov at *
                        generalize X.getD a' 0 = xv at *
                        clear HERRF HE hok hua hub hfa hfb
                        go_wp2_with fail
                        go_roundg (l.length - (j + 1))
                        case measure => have := HJF.out; omega
                        case rel => exact ⟨j + 1, _, _, _, _, by go_num, by omega, by have := HJF.out; rw [Hid]; omega, hA2, HG2.out, HE2.out⟩
                      · have hno : ¬ (((a' : Nat) : Int) ≠ ((b' : Nat) : Int) ∧ freeB k bs ((a' : Nat) : Int) = true ∧ freeB k bs ((b' : Nat) : Int) = true) := by
                          rintro ⟨_, _, h2⟩
                          rw [hfb, hub] at h2
                          simp at h2
                        rw [hua] at ua
                        rw [hub] at ub'
                        clear hfa hfb hua hub
                        have HERR := hid_of (HERRF.out hno)
                        clear HERRF HE
                        go_wp2_with fail
                        go_ret2
                        exact ⟨by rw [HERR.out]; exact ⟨_, rfl, (fun e => absurd e (by decide)), fun _ => rfl⟩, HA.out.g1.below⟩
                    · have hno : ¬ (((a' : Nat) : Int) ≠ ((b' : Nat) : Int) ∧ freeB k bs ((a' : Nat) : Int) = true ∧ freeB k bs ((b' : Nat) : Int) = true) := by
                        rintro ⟨_, h2, _⟩
                        rw [hfa, hua] at h2
                        simp at h2
                      rw [hua] at ua
                      clear hfa hfb hua
                      have HERR := hid_of (HERRF.out hno)
                      clear HERRF HE
                      go_wp2_with fail
                      go_ret2
                      exact ⟨by rw [HERR.out]; exact ⟨_, rfl, (fun e => absurd e (by decide)), fun _ => rfl⟩, HA.out.g1.below⟩
        · obtain rfl : j = l.length := by omega
          have HBS : Hid (gluF k l (glInit k) = some bs) := by
            rw [Hid, HGL.out, List.drop_length]
            rfl
          have hrn := refNew_calls ((k : Nat) : Int) wr
          have hck : clampN ((k : Nat) : Int) = k := by unfold clampN; omega
          rw [hck] at hrn
          have HRN := hid_of hrn
          clear hrn hck HGL
          go_wp2_with fail
          refine HRN.out.mono ?_
          rintro e w2 ⟨M2, rb2, rfl, hM2, hB2⟩
          obtain ⟨x2, y2, z2, rfl⟩ := hM2.slice
          have hG2 := HA.out.step hB2
          have hb2s := hB2.size
          have hubl : ub < wr.heap.size := HA.out.us.lt
          have hbA := (Below.refl w2.heap.size w2).alloc (Nat.le_refl _) (.cells #[.int .i64 ((k : Nat) : Int), .slice x2 y2 z2] 46)
          have hG3 : G3 w (w2.alloc (.cells #[.int .i64 ((k : Nat) : Int), .slice x2 y2 z2] 46)) k (.slice x y z) ub O X U w2.heap.size wr.heap.size (.slice x2 y2 z2) rb2 (fun _ _ => false) :=
            ⟨hG2.step hbA, hM2.below hbA, Blk.new w2 _ _, by omega, fun q hq => (hM2.row q hq).2.lt, fun g hg => (hM2.own.lt g hg).2⟩
          have HG3 := hid_of hG3
          clear HRN hG2 hM2 hbA hG3 HA hB2
          go_wp2_with fail
          generalize (w2.alloc (.cells #[.int .i64 ((k : Nat) : Int), .slice x2 y2 z2] 46)) = wB at *
          generalize w2.heap.size = sb at *
          generalize wr.heap.size = lo2 at *
          clear b0
          go_loopg [14] k (fun f i wq => ∃ (pp : Nat) (S : Nat → Nat → Bool), i = .int .i64 ((pp : Nat) : Int) ∧ pp ≤ k ∧ Hid (pp + f = k) ∧ Hid (G3 w wq k (.slice x y z) ub O X U sb lo2 (.slice x2 y2 z2) rb2 S) ∧ Hid (SmK k F O X pp 0 S))
          case atStart => exact ⟨0, _, rfl, Nat.zero_le _, Nat.zero_add _, HG3.out, SmK.start k F O X⟩
          case round =>
            clear HG3
            obtain ⟨pp, S, rfl, hpp, HPF, HA, HS⟩ := hrel
            have b0 : wr.cell? ⟨w.heap.size, 0, none⟩ = some (.int .i64 ((k : Nat) : Int)) := HA.out.g.g1.box.cell rfl
            by_cases hlt : pp < k
            · have P0 : (0 : Int) ≤ ((pp : Nat) : Int) := by omega
              have P1 : ((pp : Nat) : Int) < ((k : Nat) : Int) := by omega
              go_wp2_with fail
              clear b0
              go_loopg [15] k (fun f i wq => ∃ (q : Nat) (S : Nat → Nat → Bool), i = .int .i64 ((q : Nat) : Int) ∧ q ≤ k ∧ Hid (q + f = k) ∧ Hid (G3 w wq k (.slice x y z) ub O X U sb lo2 (.slice x2 y2 z2) rb2 S) ∧ Hid (SmK k F O X pp q S))
              case atStart => exact ⟨0, S, rfl, Nat.zero_le _, Nat.zero_add _, HA.out, HS.out⟩
              case round =>
                clear HA HS
                obtain ⟨q, S, rfl, hqk, HQF, HA, HS⟩ := hrel
                have b0 : wr.cell? ⟨w.heap.size, 0, none⟩ = some (.int .i64 ((k : Nat) : Int)) := HA.out.g.g1.box.cell rfl
                have b1 : wr.cell? ⟨w.heap.size, 1, none⟩ = some (.slice x y z) := HA.out.g.g1.box.cell rfl
                by_cases hql : q < k
                · have Q0 : (0 : Int) ≤ ((q : Nat) : Int) := by omega
                  have Q1 : ((q : Nat) : Int) < ((k : Nat) : Int) := by omega
                  obtain ⟨g, cap', e, m1, m2, m3, m4, m5, m6, m7⟩ := (h.below HA.out.g.g1.below).at_ hlt hql
                  obtain ⟨hx1, hx2, hx3⟩ : some ⟨g, 0, none⟩ = x ∧ k = y ∧ cap' = z := by cases e; exact ⟨rfl, rfl, rfl⟩
                  subst hx1 hx2 hx3
                  clear e
                  have nc := cellI_getD HA.out.g.g1.nx (i := pp) (by rw [HG.out.lx]; exact hlt)
                  cases hF : F pp q
                  · rw [hF] at m5
                    have HS2 := hid_of (HS.out.no (fun hc => by rw [hF] at hc; cases hc.1))
                    clear hF nc
                    go_wp2_with fail
                    go_roundg (k - (q + 1))
                    case measure => have := HQF.out; omega
                    case rel => exact ⟨q + 1, S, by go_num, by omega, by have := HQF.out; rw [Hid]; omega, HA.out, HS2.out⟩
                  · rw [hF] at m5
                    by_cases hX : X.getD pp 0 = ((q : Nat) : Int)
                    · have HS2 := hid_of (HS.out.no (fun hc => hc.2 hX))
                      rw [hX] at nc
                      have q1 : (((q : Nat) : Int) == ((q : Nat) : Int)) = true := by simp
                      clear hF hX
                      go_wp2_with fail
                      go_roundg (k - (q + 1))
                      case measure => have := HQF.out; omega
                      case rel => exact ⟨q + 1, S, by go_num, by omega, by have := HQF.out; rw [Hid]; omega, HA.out, HS2.out⟩
                    · have q1 : (X.getD pp 0 == ((q : Nat) : Int)) = false := by rw [beq_eq_false_iff_ne]; exact hX
                      have HS2 := hid_of (HS.out.yes hlt hql hF hX)
                      have hu := (HG.out.unit hlt).1
                      have hv2 := (HG.out.unit hql).1
                      obtain ⟨g2, cap2, e2, t1, t2, t3, t4, t5, t6, t7⟩ := HA.out.sm.at_ hu hv2
                      obtain ⟨hx1, hx2, hx3⟩ : some ⟨g2, 0, none⟩ = x2 ∧ k = y2 ∧ cap2 = z2 := by cases e2; exact ⟨rfl, rfl, rfl⟩
                      subst hx1 hx2 hx3
                      clear e2
                      have o1 := cellI_getD HA.out.g.g1.of_ (i := pp) (by rw [toI_length, HG.out.lo]; exact hlt)
                      have o2 := cellI_getD HA.out.g.g1.of_ (i := q) (by rw [toI_length, HG.out.lo]; exact hql)
                      rw [toI_getD] at o1 o2
                      have s1 : wr.cell? ⟨sb, 1, none⟩ = some (.slice (some ⟨g2, 0, none⟩) k cap2) := HA.out.sbx.cell rfl
                      have hA2 := HA.out.put hu hv2
                      have hr1 := (HA.out.sm.row _ hu).1
                      have hr2 := HA.out.rlt _ hu
                      have hr3 := HA.out.lo
                      have hr4 := HA.out.g.lo
                      generalize O.getD pp 0 = u at *
                      generalize O.getD q 0 = vv at *
                      generalize X.getD pp 0 = xv at *
                      have y1 : ((wr.setCell ⟨rb2 u, vv, none⟩ (.bool true)).drew).cell? ⟨sb, 1, none⟩ = some (.slice (some ⟨g2, 0, none⟩) k cap2) := (World.cell?_setCell_far wr ⟨rb2 u, vv, none⟩ ⟨sb, 1, none⟩ _ (by show rb2 u ≠ sb; omega)).trans s1
                      have y2 : ((wr.setCell ⟨rb2 u, vv, none⟩ (.bool true)).drew).cell? ⟨w.heap.size + 1, pp, none⟩ = some (.int .i64 ((u : Nat) : Int)) := (World.cell?_setCell_far wr ⟨rb2 u, vv, none⟩ ⟨w.heap.size + 1, pp, none⟩ _ (by show rb2 u ≠ w.heap.size + 1; omega)).trans o1
                      have y3 : ((wr.setCell ⟨rb2 u, vv, none⟩ (.bool true)).drew).cell? ⟨w.heap.size + 1, q, none⟩ = some (.int .i64 ((vv : Nat) : Int)) := (World.cell?_setCell_far wr ⟨rb2 u, vv, none⟩ ⟨w.heap.size + 1, q, none⟩ _ (by show rb2 u ≠ w.heap.size + 1; omega)).trans o2
                      have y4 : ((wr.setCell ⟨rb2 u, vv, none⟩ (.bool true)).drew).cell? ⟨g2, u, none⟩ = some (hdr k (rb2 u)) := (World.cell?_setCell_far wr ⟨rb2 u, vv, none⟩ ⟨g2, u, none⟩ _ t3).trans t4
                      have HY := hid_of (And.intro y1 (And.intro y2 (And.intro y3 y4)))
                      have U0 : (0 : Int) ≤ ((u : Nat) : Int) := by omega
                      have U1 : ((u : Nat) : Int) < ((k : Nat) : Int) := by omega
                      have V0 : (0 : Int) ≤ ((vv : Nat) : Int) := by omega
                      have V1 : ((vv : Nat) : Int) < ((k : Nat) : Int) := by omega
                      clear y1 y2 y3 y4 hF hX HS
                      go_wp2_with fail
                      go_region_held3 (fun w' => w'.cell? ⟨sb, 1, none⟩ = some (.slice (some ⟨g2, 0, none⟩) k cap2) ∧ w'.cell? ⟨w.heap.size + 1, pp, none⟩ = some (.int .i64 ((u : Nat) : Int)) ∧ w'.cell? ⟨w.heap.size + 1, q, none⟩ = some (.int .i64 ((vv : Nat) : Int)) ∧ w'.cell? ⟨g2, u, none⟩ = some (hdr k (rb2 u))) (first | assumption | exact ⟨s1, o1, o2, t4⟩ | exact HY.out) (fail)
                      rename_i hHeld
                      clear hHeld
                      have hA3 := hA2.step (Below.refl _ _).drew
                      go_wp2_with fail
                      go_roundg (k - (q + 1))
                      case measure => have := HQF.out; omega
                      case rel => exact ⟨q + 1, _, by go_num, by omega, by have := HQF.out; rw [Hid]; omega, hA3, HS2.out⟩
                · obtain rfl : q = k := by omega
                  have HS2 := hid_of HS.out.row
                  go_wp2_with fail
                  go_roundg (q - (pp + 1))
                  case measure => have := HPF.out; omega
                  case rel => exact ⟨pp + 1, S, by go_num, by omega, by have := HPF.out; rw [Hid]; omega, HA.out, HS2.out⟩
            · obtain rfl : pp = k := by omega
              have hSm : RefM lo2 wr (.slice x2 y2 z2) pp pp rb2 (SmU pp F O X) := HA.out.sm.congr (fun u v _ _ => HS.out.done u v)
              have hG3 : G3 w wr pp (.slice x y z) ub O X U sb lo2 (.slice x2 y2 z2) rb2 (SmU pp F O X) := ⟨HA.out.g, hSm, HA.out.sbx, HA.out.lo, HA.out.rlt, HA.out.mlt⟩
              have hsbl : sb < wr.heap.size := HA.out.sbx.lt
              have hbA := (Below.refl wr.heap.size wr).alloc (Nat.le_refl _) (.cells (arrB (List.replicate pp false)) 4)
              have hG5 : G5 w (wr.alloc (.cells (arrB (List.replicate pp false)) 4)) pp (.slice x y z) ub O X U sb lo2 (.slice x2 y2 z2) rb2 (SmU pp F O X) wr.heap.size (doneL pp []) (.slice none 0 0) [] := by
                refine ⟨hG3.step hbA, ?_, World.ownsRow_nil _ _ _ _, hsbl⟩
                rw [doneL_nil]
                exact Blk.new wr _ _
              have HG5 := hid_of hG5
              clear hG3 hSm hG5 HA HS hbA
              go_wp2_with fail
              generalize (wr.alloc (.cells (arrB (List.replicate pp false)) 4)) = wC at *
              generalize wr.heap.size = db at *
              clear b0
              go_loopg [17] (fsts pp O).length (fun f vl wq => ∃ (pts : List Nat), Hid (pts.length + f = (fsts pp O).length) ∧ Hid (pts.Nodup ∧ (∀ i ∈ pts, i < (fsts pp O).length) ∧ (∀ i ∈ pts, ∀ u, (fsts pp O)[i]? = some u → SmU pp F O X u u = false)) ∧ Hid ((∀ u, u < L.length → SmU L.length F O X u u = false) → SrtAt (betw L (bs.filter (fun b => !b.isEmpty))) pts.length pts) ∧ Hid (G5 w wq pp (.slice x y z) ub O X U sb lo2 (.slice x2 y2 z2) rb2 (SmU pp F O X) db (doneL pp (laidU bs (fsts pp O) pts)) vl (laidU bs (fsts pp O) pts)))
              case atStart => exact ⟨[], Nat.zero_add _, ⟨List.nodup_nil, fun i hi => absurd hi (by simp), fun i hi => absurd hi (by simp)⟩, fun _ => SrtAt.begin _, HG5.out⟩
              case round =>
                clear HG5
                obtain ⟨pts, HPF, HN, HSR, HA⟩ := hrel
                have hpL := HLn.out
                have HGL := HG.out
                have HBL := HBS.out
                have HNL := HN.out
                rw [hpL] at HGL HBL HNL
                have HGLh := hid_of HGL
                have HBLh := hid_of HBL
                have HNLh := hid_of HNL
                have b0 : wr.cell? ⟨w.heap.size, 0, none⟩ = some (.int .i64 ((pp : Nat) : Int)) := HA.out.g.g.g1.box.cell rfl
                have hll : (laidU bs (fsts pp O) pts).length ≤ pp := by
                  have := sub_len (laidU bs (fsts L.length O) pts) (List.range L.length) (laidU_nodup HGL pts HNL.1 HNL.2.1) (fun x hx => List.mem_range.2 (laidU_lt HGL HNL.2.1 x hx))
                  rw [List.length_range] at this
                  rw [hpL]
                  exact this
                obtain ⟨ls, hls⟩ : ∃ ls, ls = laidU bs (fsts pp O) pts := ⟨_, rfl⟩
                rw [← hls] at HA hll
                have HLS := hid_of hls
                clear hls HGL HBL HNL hpL
                obtain ⟨vx, vz, rfl⟩ : ∃ vx vz, u17 = .slice vx ls.length vz := by
                  rcases HA.out.own.2 with ⟨e1, e2⟩ | ⟨g', cap, cur, e1, _⟩
                  · exact ⟨none, 0, by rw [e1, e2]⟩
                  · exact ⟨_, _, e1⟩
                by_cases hlt : ls.length < pp
                · have t1 : ((ls.length : Nat) : Int) < ((pp : Nat) : Int) := by omega
                  go_wp2_with fail
                  clear b0
                  go_loopg [18, 19] pp (fun f nx i wq => ∃ (q : Nat) (nv : Int), nx = .int .i64 nv ∧ i = .int .i64 (((q : Nat) : Int) - 1) ∧ q ≤ pp ∧ Hid (q = f) ∧ Hid (LeastP (fun p => O.getD p 0 == p && freeF pp (SmU pp F O X) (doneL pp ls) p) pp q nv) ∧ Hid (G5 w wq pp (.slice x y z) ub O X U sb lo2 (.slice x2 y2 z2) rb2 (SmU pp F O X) db (doneL pp ls) (.slice vx ls.length vz) ls))
                  case atStart => exact ⟨pp, -1, rfl, rfl, Nat.le_refl _, rfl, LeastP.start _ _, HA.out⟩
                  case round =>
                    clear HA
                    obtain ⟨q, nv, rfl, rfl, hq, HQF, HLP, HA⟩ := hrel
                    by_cases hq0 : 0 < q
                    · obtain ⟨q', rfl⟩ : ∃ q', q = q' + 1 := ⟨q - 1, by omega⟩
                      have eq1 : (((q' + 1 : Nat) : Int)) - 1 = ((q' : Nat) : Int) := by omega
                      rw [eq1]
                      have g0 : (0 : Int) ≤ ((q' : Nat) : Int) := by omega
                      have g1 : ((q' : Nat) : Int) < ((pp : Nat) : Int) := by omega
                      have oc := cellI_getD HA.out.g.g.g1.of_ (i := q') (by rw [toI_length, HG.out.lo]; omega)
                      rw [toI_getD] at oc
                      by_cases hO : O.getD q' 0 = q'
                      · rw [hO] at oc
                        have o1 : (((q' : Nat) : Int) == ((q' : Nat) : Int)) = true := by simp
                        have s0 : wr.cell? ⟨sb, 0, none⟩ = some (.int .i64 ((pp : Nat) : Int)) := HA.out.g.sbx.cell rfl
                        have s1 : wr.cell? ⟨sb, 1, none⟩ = some (.slice x2 y2 z2) := HA.out.g.sbx.cell rfl
                        have hf := r2free_calls lo2 pp hn x2 y2 z2 rb2 (SmU pp F O X) (doneL pp ls) db q' wr HA.out.g.sm HA.out.don (doneL_length _ _) (by omega)
                        cases hfr : freeF pp (SmU pp F O X) (doneL pp ls) q'
                        · rw [hfr] at hf
                          have HL2 := hid_of (HLP.out.no (by rw [hfr, Bool.and_false]))
                          clear hfr hO
                          go_wp2_with fail
                          refine hf.mono ?_
                          rintro e w3 ⟨rfl, hB3⟩
                          have hA3 := HA.out.step hB3
                          clear hf oc s0 s1
                          go_wp2_with fail
                          go_roundg q'
                          case measure => have := HQF.out; omega
                          case rel => exact ⟨q', nv, rfl, by go_num, by omega, rfl, HL2.out, hA3⟩
                        · rw [hfr] at hf
                          have HL2 : Hid (LeastP (fun p => O.getD p 0 == p && freeF pp (SmU pp F O X) (doneL pp ls) p) pp q' ((q' : Nat) : Int)) := LeastP.yes (by omega) (by rw [hfr, hO, beq_self_eq_true]; rfl)
                          clear hfr hO
                          go_wp2_with fail
                          refine hf.mono ?_
                          rintro e w3 ⟨rfl, hB3⟩
                          have hA3 := HA.out.step hB3
                          clear hf oc s0 s1
                          go_wp2_with fail
                          go_roundg q'
                          case measure => have := HQF.out; omega
                          case rel => exact ⟨q', ((q' : Nat) : Int), rfl, by go_num, by omega, rfl, HL2.out, hA3⟩
                      · have o1 : (((O.getD q' 0 : Nat) : Int) == ((q' : Nat) : Int)) = false := by rw [beq_eq_false_iff_ne]; omega
                        have HL2 := hid_of (HLP.out.no (by rw [show (O.getD q' 0 == q') = false by rw [beq_eq_false_iff_ne]; exact hO]; rfl))
                        generalize O.getD q' 0 = ov at *
                        clear hO
                        go_wp2_with fail
                        go_roundg q'
                        case measure => have := HQF.out; omega
                        case rel => exact ⟨q', nv, rfl, by go_num, by omega, rfl, HL2.out, HA.out⟩
                    · obtain rfl : q = 0 := by omega
                      have hm1 : ¬ (0 : Int) ≤ ((0 : Nat) : Int) - 1 := by omega
                      have hptl : pts.length < (fsts L.length O).length := by
                        have hpL := HLn.out
                        have h1 := HPF.out
                        have h2 := (laidU_all HGLh.out HNLh.out.1 HNLh.out.2.1).2
                        have h3 := HLS.out
                        rw [hpL] at h1 h3 hlt
                        rw [← h3] at h2
                        omega
                      have HLF : Hid ((∀ u, u < L.length → SmU L.length F O X u u = false) → (nv = -1 ∧ fz (wAll (betw L (bs.filter (fun b => !b.isEmpty))).length (pairsL (betw L (bs.filter (fun b => !b.isEmpty)))) pts) < 0) ∨ (∃ (j u : Nat), nv = (u : Int) ∧ (fsts L.length O)[j]? = some u ∧ fz (wAll (betw L (bs.filter (fun b => !b.isEmpty))).length (pairsL (betw L (bs.filter (fun b => !b.isEmpty)))) pts) = (j : Int))) := by
                        intro hgood
                        have hpL := HLn.out
                        have hh := HLP.out
                        have h3 := HLS.out
                        rw [h3, hpL] at hh
                        exact least_same HGLh.out HT.out (by omega) HLW.out hgood HNLh.out.2.1 hh
                      by_cases hneg : nv < 0
                      · have HEQ : Hid (glueF L l = ([], 3)) := by
                          have hpL := HLn.out
                          refine glue_stuck HBLh.out HGLh.out HT.out (by omega) HLW.out HSR.out hptl ?_
                          intro hgood
                          rcases HLF.out hgood with ⟨_, h2⟩ | ⟨j, u, h1, _⟩
                          · exact h2
                          · omega
                        clear hptl
                        go_wp2_with fail
                        go_ret2
                        exact ⟨by rw [HEQ.out]; exact ⟨_, rfl, fun e => absurd e (by decide), fun _ => rfl⟩, HA.out.g.g.g1.below⟩
                      · obtain ⟨u, rfl⟩ : ∃ u : Nat, nv = ((u : Nat) : Int) := ⟨nv.toNat, by omega⟩
                        have hLPo := HLP.out
                        rcases hLPo with ⟨e, _⟩ | ⟨u', e, _, hup, hPu, _⟩
                        · omega
                        obtain rfl : u' = u := by omega
                        simp only [] at hPu
                        rw [Bool.and_eq_true, beq_iff_eq] at hPu
                        obtain ⟨hOu, hfu⟩ := hPu
                        have hDu : (doneL pp ls).getD u' false = false := by
                          unfold freeF at hfu
                          rw [Bool.and_eq_true, Bool.not_eq_true'] at hfu
                          exact hfu.1
                        have hgu : SmU pp F O X u' u' = false := by
                          rw [Bool.eq_false_iff]
                          intro hb
                          rw [bad_stays hup hb] at hfu
                          cases hfu
                        obtain ⟨j, hj⟩ := List.getElem?_of_mem (fsts_mem.2 ⟨hup, hOu⟩)
                        have hjl := (List.getElem?_eq_some_iff.1 hj).1
                        have hjn : j ∉ pts := by
                          intro hjp
                          have h1 := (laidU_mem HG.out HN.out.2.1 hup hj hOu).2 hjp
                          rw [← HLS.out] at h1
                          rw [doneL_at _ hup] at hDu
                          rw [List.contains_iff_mem.2 h1] at hDu
                          cases hDu
                        have HN2 : Hid ((pts ++ [j]).Nodup ∧ (∀ i ∈ pts ++ [j], i < (fsts pp O).length) ∧ (∀ i ∈ pts ++ [j], ∀ u, (fsts pp O)[i]? = some u → SmU pp F O X u u = false)) := by
                          refine ⟨?_, ?_, ?_⟩
                          · rw [List.nodup_append]
                            refine ⟨HN.out.1, by simp, ?_⟩
                            intro a ha b hb hab
                            simp at hb
                            subst hb
                            subst hab
                            exact hjn ha
                          · intro i hi
                            rcases List.mem_append.1 hi with hi | hi
                            · exact HN.out.2.1 i hi
                            · simp at hi
                              subst hi
                              exact hjl
                          · intro i hi v hv
                            rcases List.mem_append.1 hi with hi | hi
                            · exact HN.out.2.2 i hi v hv
                            · simp at hi
                              subst hi
                              rw [hj] at hv
                              rw [← Option.some.inj hv]
                              exact hgu
                        have HSR2 : Hid ((∀ u, u < L.length → SmU L.length F O X u u = false) → SrtAt (betw L (bs.filter (fun b => !b.isEmpty))) (pts ++ [j]).length (pts ++ [j])) := by
                          intro hgood
                          have hpL := HLn.out
                          have hbl : (betw L (bs.filter (fun b => !b.isEmpty))).length = (fsts L.length O).length := by rw [betw_length, HGLh.out.blocks, List.length_map]
                          rcases HLF.out hgood with ⟨h1, _⟩ | ⟨j', v, h1, h2, h3⟩
                          · omega
                          · obtain rfl : v = u' := by omega
                            rw [hpL] at hj
                            obtain rfl : j' = j := rise_inj (fsts_rise L.length O) h2 hj
                            have := (HSR.out hgood).next (by omega) h3
                            rw [List.length_append]
                            exact this
                        have HLA : Hid (laidU bs (fsts pp O) (pts ++ [j]) = ls ++ bs.getD u' []) := by
                          rw [Hid, laidU_snoc, ← HLS.out]
                          have : (fsts pp O).getD j 0 = u' := by rw [List.getD_eq_getElem?_getD, hj]; rfl
                          rw [this]
                        have U0 : (0 : Int) ≤ ((u' : Nat) : Int) := by omega
                        have U1 : ((u' : Nat) : Int) < ((pp : Nat) : Int) := by omega
                        have d0 := arrB_cell HA.out.don (i := u') (by rw [doneL_length]; exact hup)
                        rw [hDu] at d0
                        have f0 := HA.out.don.frozen u'
                        have hA1 := HA.out.mark u'
                        rw [doneL_set] at hA1
                        have HC2 := hid_of (HG.out.cases2 hup hOu)
                        have hneg' : ¬ ((u' : Nat) : Int) < 0 := by omega
                        have hdbl := HA.out.don.lt
                        clear HLP HLF hfu hDu hgu hjn hj hjl hOu HSR HN
                        go_upto_region 41 with fail
                        generalize wr.setCell ⟨db, u', none⟩ (.bool true) = W1 at *
                        clear d0 f0
                        have hW1l := hA1.don.lt
                        go_upto_region 42 with (at_builtin; refine wpList_append_own_at _ rfl _ _ 29 rfl (db + 1) 3 i0 (.int .i64 0) 1 8 Tryd.underlying29 hi hz0 hz1 hz2 rfl (by decide) (.slice vx ls.length vz) ls.length (encN ls) rfl (hA1.own.alloc _) ⟨_, 0, none⟩ 1 1 [.int .i64 ((u' : Nat) : Int)] rfl rfl (news_int W1 u') (by simp [Value.oneCell']) (by unfold maxLen; omega) (by omega) (by simp; omega) ?_; intro v2 w5 hown' hgrow _ _; have hA5 := hA1.more hown' hgrow; clear hown' hgrow)
                        rcases HC2.out with ⟨c1, c2⟩ | ⟨xn, c1, c2, c3, c4, c5⟩
                        · have nc := cellI_getD hA5.g.g.g1.nx (i := u') (by rw [HG.out.lx]; exact hup)
                          rw [c2] at nc
                          have hAF : G5 w w5 pp (.slice x y z) ub O X U sb lo2 (.slice x2 y2 z2) rb2 (SmU pp F O X) db (doneL pp (laidU bs (fsts pp O) (pts ++ [j]))) v2 (laidU bs (fsts pp O) (pts ++ [j])) := by
                            rw [HLA.out, c1]
                            exact hA5
                          clear c1 c2 hA1
                          go_wp2_with fail
                          go_roundg ((fsts pp O).length - (pts.length + 1))
                          case measure => have := HPF.out; have hpL := HLn.out; rw [hpL] at this; rw [hpL]; omega
                          case rel => exact ⟨pts ++ [j], by have := HPF.out; have hpL := HLn.out; rw [hpL] at this; rw [Hid, hpL, List.length_append]; simp; omega, HN2.out, HSR2.out, hAF⟩
                        · have nc := cellI_getD hA5.g.g.g1.nx (i := u') (by rw [HG.out.lx]; exact hup)
                          rw [c2] at nc
                          have X0 : (0 : Int) ≤ ((xn : Nat) : Int) := by omega
                          have X1 : ((xn : Nat) : Int) < ((pp : Nat) : Int) := by omega
                          have d5 := arrB_cell hA5.don (i := xn) (by rw [doneL_length]; exact c4)
                          have f5 := hA5.don.frozen xn
                          have hA6 := hA5.mark xn
                          rw [doneL_set] at hA6
                          generalize (doneL pp (ls ++ [u'])).getD xn false = dv at *
                          have n5 : (w5.setCell ⟨db, xn, none⟩ (.bool true)).cell? ⟨w.heap.size + 2, u', none⟩ = some (.int .i64 ((xn : Nat) : Int)) := by
                            have := cellI_getD hA6.g.g.g1.nx (i := u') (by rw [HG.out.lx]; exact hup)
                            rw [c2] at this
                            exact this
                          have hl1 : (ls ++ [u']).length = ls.length + 1 := by rw [List.length_append]; rfl
                          obtain ⟨ls1, hls1⟩ : ∃ ls1, ls1 = ls ++ [u'] := ⟨_, rfl⟩
                          rw [← hls1] at hA5 hA6 hl1
                          have HL1 := hid_of hls1
                          have HLL := hid_of hl1
                          obtain ⟨vx2, vz2, rfl⟩ : ∃ vx vz, v2 = .slice vx ls1.length vz := by
                            rcases hA5.own.2 with ⟨e1, e2⟩ | ⟨g', cap, cur, e1, _⟩
                            · exact ⟨none, 0, by rw [e1, e2]⟩
                            · exact ⟨_, _, e1⟩
                          clear hls1 hl1 c2 hA1
                          go_upto_region 44 with fail
                          generalize w5.setCell ⟨db, xn, none⟩ (.bool true) = W6 at *
                          clear d5 f5 nc hA5
                          have hW6l := hA6.don.lt
                          go_wp2_with (at_builtin; refine wpList_append_own_at _ rfl _ _ 29 rfl (db + 1) 3 i0 (.int .i64 0) 1 8 Tryd.underlying29 hi hz0 hz1 hz2 rfl (by decide) (.slice vx2 ls1.length vz2) ls1.length (encN ls1) rfl (hA6.own.alloc _) ⟨_, 0, none⟩ 1 1 [.int .i64 ((xn : Nat) : Int)] rfl rfl (news_int W6 xn) (by simp [Value.oneCell']) (by have := HLL.out; unfold maxLen; omega) (by have := HLL.out; omega) (by simp; omega) ?_; intro v3 w7 hown' hgrow _ _; have hA7 := hA6.more hown' hgrow; clear hown' hgrow)
                          have hAF : G5 w w7 pp (.slice x y z) ub O X U sb lo2 (.slice x2 y2 z2) rb2 (SmU pp F O X) db (doneL pp (laidU bs (fsts pp O) (pts ++ [j]))) v3 (laidU bs (fsts pp O) (pts ++ [j])) := by
                            rw [HLA.out, c1]
                            have e1 : ls ++ [u', xn] = ls1 ++ [xn] := by rw [HL1.out, List.append_assoc]; rfl
                            rw [e1]
                            exact hA7
                          go_roundg ((fsts pp O).length - (pts.length + 1))
                          case measure => have := HPF.out; have hpL := HLn.out; rw [hpL] at this; rw [hpL]; omega
                          case rel => exact ⟨pts ++ [j], by have := HPF.out; have hpL := HLn.out; rw [hpL] at this; rw [Hid, hpL, List.length_append]; simp; omega, HN2.out, HSR2.out, hAF⟩
                · have t1 : ¬ ((ls.length : Nat) : Int) < ((pp : Nat) : Int) := by omega
                  have HEQ : Hid (glueF L l = (ls, 0)) := by
                    have hpL := HLn.out
                    have hsz : L.length ≤ (laidU bs (fsts L.length O) pts).length := by
                      have := HLS.out
                      rw [hpL] at this hlt
                      rw [← this]
                      omega
                    have := glue_full HBLh.out HGLh.out HT.out (by omega) HLW.out HNLh.out.1 HNLh.out.2.1 HNLh.out.2.2 HSR.out hsz
                    rw [Hid, this, HLS.out, hpL]
                  have hlo5 := HA.out.lo
                  have hlo3 := HA.out.g.lo
                  have hlo2' := HA.out.g.g.lo
                  go_wp2_with fail
                  go_ret2
                  exact ⟨by rw [HEQ.out]; exact ⟨_, rfl, fun _ => owns_lo HA.out.own (by omega), fun e => absurd rfl e⟩, HA.out.g.g.g1.below⟩
end Go.Proofs.YtmmgdeoballhpaaDoor
/- The reference's more: what it has in memory. -/
namespace Go.Proofs.YtmmgdeoballhpaaDoor
open Go.RowKit Go.Shelf Sx

/-- A list of lists that are read, itself of our own. -/
structure RdL (W : World) (base : Nat) (v : Value) (vs : List Value) (ls : List (List Int)) : Prop where
  own : W.ownsRow base 29 1 v vs.length vs
  len : vs.length = ls.length
  row : ∀ (i : Nat) (x : Value) (l : List Int), vs[i]? = some x → ls[i]? = some l → W.ownsRow 0 3 1 x l.length (encJ l)
theorem RdL.at_ {W : World} {base : Nat} {v : Value} {vs : List Value} {ls : List (List Int)} (h : RdL W base v vs ls) {i : Nat} {x : Value} (hx : vs[i]? = some x) : ∃ l, ls[i]? = some l ∧ W.ownsRow 0 3 1 x l.length (encJ l) := by
  have hi : i < vs.length := (List.getElem?_eq_some_iff.1 hx).1
  have hl : ls[i]? = some (ls[i]'(by have := h.len; omega)) := List.getElem?_eq_getElem _
  exact ⟨_, hl, h.row i x _ hx hl⟩
theorem RdL.nil (W : World) (base : Nat) : RdL W base (.slice none 0 0) [] [] := ⟨World.ownsRow_nil _ _ _ _, rfl, fun i x l h => by simp at h⟩
theorem RdL.step {W W' : World} {base : Nat} {v : Value} {vs : List Value} {ls : List (List Int)} (h : RdL W base v vs ls) (hb : Below W.heap.size W W') : RdL W' base v vs ls :=
  ⟨owns_below' h.own hb, h.len, fun i x l hx hl => owns_below' (h.row i x l hx hl) hb⟩
theorem RdL.lo {W : World} {base b' : Nat} {v : Value} {vs : List Value} {ls : List (List Int)} (h : RdL W base v vs ls) (hb : b' ≤ base) : RdL W b' v vs ls := ⟨owns_lo h.own hb, h.len, h.row⟩
theorem RdL.ne {W : World} {base : Nat} {v x : Value} {vs : List Value} {ls : List (List Int)} {b2 m : Nat} {xs : List Value} (h : RdL W base v vs ls) (hx : W.ownsRow b2 3 1 x m xs) {g : Nat} (hg : x.ownBlock = some g) : v.ownBlock ≠ some g := by
  intro e
  obtain ⟨c1, h1⟩ := owns_blk hx hg
  obtain ⟨c2, h2⟩ := owns_blk h.own e
  exact absurd (blk_type h1 h2) (by decide)
theorem RdL.keeps {W W5 : World} {base : Nat} {v x : Value} {vs : List Value} {ls : List (List Int)} {l : List Int} {o : Obj} (h : RdL W base v vs ls) (hx : W.ownsRow 0 3 1 x l.length (encJ l)) (hg : (W.alloc o).grownBy W5 v.ownBlock) : W5.ownsRow 0 3 1 x l.length (encJ l) :=
  owns_keep hx (fun g e => by
    have hl := (hx.lt g e).2
    rw [hg.block g (by simp; omega) (fun e2 => h.ne hx e e2.symm), Below.heap_alloc _ _ _ hl])
theorem RdL.add {W W5 : World} {base : Nat} {v v' x : Value} {vs : List Value} {ls : List (List Int)} {l : List Int} {o : Obj} (h : RdL W base v vs ls) (hx : W.ownsRow 0 3 1 x l.length (encJ l))
    (hown : W5.ownsRow base 29 1 v' (vs.length + 1) (vs ++ [x])) (hg : (W.alloc o).grownBy W5 v.ownBlock) : RdL W5 base v' (vs ++ [x]) (ls ++ [l]) := by
  have hlen := h.len
  refine ⟨by rw [List.length_append]; exact hown, by simp [hlen], fun i y l' hy hl => ?_⟩
  by_cases hi : i < vs.length
  · rw [List.getElem?_append_left hi] at hy
    rw [List.getElem?_append_left (by omega)] at hl
    exact h.keeps (h.row i y l' hy hl) hg
  · have hi2 : i = vs.length := by have := (List.getElem?_eq_some_iff.1 hy).1; simp at this; omega
    subst hi2
    rw [List.getElem?_append_right (Nat.le_refl _)] at hy
    rw [hlen, List.getElem?_append_right (Nat.le_refl _)] at hl
    simp at hy hl
    subst hy
    subst hl
    exact h.keeps hx hg
/-- Another list of lists, which lies elsewhere. -/
theorem RdL.other {W W5 : World} {base b2 : Nat} {v u : Value} {vs us : List Value} {ls ms : List (List Int)} {o : Obj} (h : RdL W base v vs ls) (k : RdL W b2 u us ms) (hne : ∀ g, u.ownBlock = some g → v.ownBlock ≠ some g) (hg : (W.alloc o).grownBy W5 v.ownBlock) : RdL W5 b2 u us ms :=
  ⟨owns_keep k.own (fun g e => by
    have hl := (k.own.lt g e).2
    rw [hg.block g (by simp; omega) (fun e2 => hne g e e2.symm), Below.heap_alloc _ _ _ hl]), k.len, fun i x l hx hl => h.keeps (k.row i x l hx hl) hg⟩
theorem RdL.blocks {W : World} {base : Nat} {v : Value} {vs : List Value} {bs : List (List Nat)} (h : RdL W base v vs (bs.map toI)) : BlocksR W v bs := by
  have hlen : vs.length = bs.length := by have := h.len; simpa using this
  obtain ⟨a, cap, e⟩ := owns_len h.own
  refine ⟨a, cap, by rw [← hlen]; exact e, vs, hlen, fun h0 => ?_, fun i u bl hu hbl => ?_⟩
  · obtain ⟨s, cap', e1, h1, h2⟩ := owns_cells h.own rfl (by omega)
    rw [e] at e1
    injection e1 with e1 _ _
    exact ⟨s, e1, h1, h2⟩
  · exact owns_intsR (h.row i u (toI bl) hu (by rw [List.getElem?_map, hbl]; rfl))
theorem RdL.one {W : World} {base : Nat} {x : Value} {l : List Int} (hb : base ≤ W.heap.size) (hx : W.ownsRow 0 3 1 x l.length (encJ l)) : RdL (W.alloc (.cells #[x] 29)) base (.slice (some ⟨W.heap.size, 0, none⟩) 1 1) [x] [l] := by
  refine ⟨⟨rfl, .inr ⟨W.heap.size, 1, _, rfl, hb, Blk.new W _ _, Nat.le_refl _, by decide, by simp, by simp⟩⟩, rfl, fun i y l' hy hl => ?_⟩
  have hi : i = 0 := by have := (List.getElem?_eq_some_iff.1 hy).1; simp at this; omega
  subst hi
  simp at hy hl
  subst hy
  subst hl
  exact hx.alloc _
/-- What is done with one point more, as far as it is laid. -/
def dmK (n : Nat) (pts : List Nat) (k j : Nat) : List Bool := (List.range n).map (fun q => decide (q < j) && (pts ++ [k]).contains q)
theorem dmK_length (n : Nat) (pts : List Nat) (k j : Nat) : (dmK n pts k j).length = n := by simp [dmK]
theorem dmK_zero (n : Nat) (pts : List Nat) (k : Nat) : dmK n pts k 0 = List.replicate n false := by
  unfold dmK
  apply List.ext_getElem
  · simp
  · intro i h1 h2; simp
theorem dmK_all (n : Nat) (pts : List Nat) (k : Nat) : dmK n pts k n = doneL n (pts ++ [k]) := by
  unfold dmK doneL
  apply List.map_congr_left
  intro q hq
  simp [List.mem_range.1 hq]
theorem dmK_set {n : Nat} (pts : List Nat) (k : Nat) {j : Nat} {b : Bool} (hb : b = (pts ++ [k]).contains j) : (dmK n pts k j).set j b = dmK n pts k (j + 1) := by
  apply List.ext_getElem
  · simp [dmK]
  · intro i h1 h2
    rw [List.getElem_set]
    simp only [dmK, List.getElem_map, List.getElem_range]
    by_cases e : j = i
    · subst e; simp [hb]
    · rw [if_neg e]
      congr 1
      rw [Bool.eq_iff_iff]
      simp
      omega
theorem done_or {pts : List Nat} {k j : Nat} : (pts ++ [k]).contains j = (pts.contains j || (j == k)) := by
  rw [Bool.eq_iff_iff]
  simp
theorem take_enc (l : List Nat) {k : Nat} (h : k < l.length) : encJ (toI (l.take k)) ++ [.int .i64 ((l.getD k 0 : Nat) : Int)] = encJ (toI (l.take (k + 1))) := by
  rw [List.take_succ_eq_append_getElem h, List.getD_eq_getElem?_getD, List.getElem?_eq_getElem h]
  unfold encJ toI
  rw [List.map_append, List.map_append]
  rfl
end Go.Proofs.YtmmgdeoballhpaaDoor
/- Of RefInter, what this seat can build. -/
namespace Go.Proofs.YtmmgdeoballhpaaDoor
open Go.RowKit Go.Shelf Sx

theorem hasF_nat (n : Nat) (F : Nat → Nat → Bool) (p q : Nat) : hasF n F ((p : Nat) : Int) ((q : Nat) : Int) = extF n F p q := by
  unfold hasF extF inR
  rw [Int.toNat_natCast, Int.toNat_natCast]
  congr 1
  · simp
  · congr 1
    simp
theorem fillF_put2 {G F0 : Nat → Nat → Bool} {m a b : Nat} {v : Bool} (h : G a b = v) : upd (fillF G F0 m a b) a b v = fillF G F0 m a (b + 1) := by
  rw [← h]
  exact fillF_put G F0
set_option maxRecDepth 100000 in
set_option maxHeartbeats 8000000 in
theorem refMinus_calls (lo lo2 n m N : Nat) (hn : n ≤ 256) (hm : m ≤ 256) (HN : Hid (N = max n m)) (x : Option Addr) (y z : Nat) (rb : Nat → Nat) (F : Nat → Nat → Bool) (x1 : Option Addr) (y1 z1 : Nat) (rb1 : Nat → Nat) (G : Nat → Nat → Bool) (w : World) (h : RefM lo w (.slice x y z) n n rb F) (h1 : RefM lo2 w (.slice x1 y1 z1) m m rb1 G) :
    Calls Tryd.prog 57 #[.agg #[.int .i64 ((n : Nat) : Int), .slice x y z], .agg #[.int .i64 ((m : Nat) : Int), .slice x1 y1 z1]] w fun e w' => ∃ M rb', e = .returned (.agg #[.int .i64 ((N : Nat) : Int), M]) ∧ RefM w.heap.size w' M N N rb' (fun p q => extF n F p q && !extF m G p q) ∧ Below w.heap.size w w' := by
  have hN : N ≤ 256 := by have := HN.out; omega
  have hnN : n ≤ N := by have := HN.out; omega
  have hmN : m ≤ N := by have := HN.out; omega
  go_enter Tryd.func57, Tryd.ntmps57
  go_wp2_with fail
  refine (refWide_at lo n hn x y z rb F m N hm HN _ (((h.alloc _).alloc _).alloc _)).mono ?_
  rintro e w1 ⟨M, rbw, rfl, hRM, hB1⟩
  obtain ⟨x2, y2, z2, rfl⟩ := hRM.slice
  have hA : MkAt w (w1.alloc (.cells #[.int .i64 ((N : Nat) : Int), .slice x2 y2 z2] 46)) 3 [(0, #[.int .i64 ((n : Nat) : Int), .slice x y z]), (1, #[.int .i64 ((m : Nat) : Int), .slice x1 y1 z1]), (2, #[.int .i64 0, .slice none 0 0])] w1.heap.size N (.slice x2 y2 z2) rbw (fillF (fun p q => extF n F p q && !extF m G p q) (extF n F) N 0 0) := by
    refine MkAt.begin ((((Below.refl _ w).alloc (Nat.le_refl _) _).alloc (by simp) _).alloc (by simp; omega) _) (by simp) ?_ (hRM.congr fun p q hp hq => ?_) hB1
    · intro x hx
      simp only [List.mem_cons, List.not_mem_nil, or_false] at hx
      rcases hx with rfl | rfl | rfl
      · exact ⟨by omega, ((Blk.new w _ _).alloc _).alloc _⟩
      · exact ⟨by omega, (Blk.new2 w _ _ _).alloc _⟩
      · exact ⟨by omega, Blk.new3 w _ _ _ _⟩
    · rw [fillF_zero, fill_ext]
  clear hRM hB1
  go_wp2_with fail
  generalize w1.heap.size = B at *
  go_loopw [6] (fun i wr => ∃ a, a ≤ N ∧ i = .int .i64 ((a : Nat) : Int) ∧ MkAt w wr 3 [(0, #[.int .i64 ((n : Nat) : Int), .slice x y z]), (1, #[.int .i64 ((m : Nat) : Int), .slice x1 y1 z1]), (2, #[.int .i64 0, .slice none 0 0])] B N (.slice x2 y2 z2) rbw (fillF (fun p q => extF n F p q && !extF m G p q) (extF n F) N a 0)) (fun i _ => N - (intOf i).toNat)
  case atStart => exact ⟨0, by omega, rfl, hA⟩
  case round =>
    clear hA
    obtain ⟨a, ha, rfl, hA⟩ := hrel
    (try dsimp only at hA)
    have c0 := hA.box.cell (j := 0) rfl
    by_cases hlt : a < N
    · go_wp2_with fail
      clear c0
      go_loopw [7] (fun i wr => ∃ b, b ≤ N ∧ i = .int .i64 ((b : Nat) : Int) ∧ MkAt w wr 3 [(0, #[.int .i64 ((n : Nat) : Int), .slice x y z]), (1, #[.int .i64 ((m : Nat) : Int), .slice x1 y1 z1]), (2, #[.int .i64 0, .slice none 0 0])] B N (.slice x2 y2 z2) rbw (fillF (fun p q => extF n F p q && !extF m G p q) (extF n F) N a b)) (fun i _ => N - (intOf i).toNat)
      case atStart => exact ⟨0, by omega, rfl, hA⟩
      case round =>
        clear hA
        obtain ⟨b, hb, rfl, hA⟩ := hrel
        (try dsimp only at hA)
        have c0 := hA.box.cell (j := 0) rfl
        by_cases hlt2 : b < N
        · skip
          have d1 := hA.box.cell (j := 1) rfl
          have c2 := hA.snd.cell (j := 1) rfl
          obtain ⟨g2, cap2, e2, q2, _, n2, s0, s1, fz, q3⟩ := hA.ref.at_ (p := a) (q := b) (by omega) (by omega)
          cases e2
          rw [fillF_at] at s1
          have haN : a < N := by omega
          have hbN : b < N := by omega
          cases hv : extF n F a b
          · rw [hv] at s1
            have hA2 := (hA.drew.put (p := a) (q := b) (by omega) (by omega) false).congr (G := fillF (fun p q => extF n F p q && !extF m G p q) (extF n F) N a (b + 1)) (fun p q _ _ => congrFun (congrFun (fillF_put2 (G := fun p q => extF n F p q && !extF m G p q) (by rw [hv, Bool.false_and])) p) q)
            go_wp2_with fail
            go_region
            all_goals
              go_wp2_with fail
              refine ⟨⟨b + 1, by omega, by go_num, hA2⟩, by simp [intOf]; omega⟩
          · rw [hv] at s1
            go_wp2_with fail
            generalize hA0 : Act.mk _ _ = a0
            have hsz : a0.tmps.size = 47 := by rw [← hA0]; rfl
            have b5 : Act.eval a0 (.tmp 5) = pv B := by rw [← hA0]; rfl
            have b6 : Act.eval a0 (.tmp 6) = .int .i64 ((a : Nat) : Int) := by rw [← hA0]; rfl
            have b7 : Act.eval a0 (.tmp 7) = .int .i64 ((b : Nat) : Int) := by rw [← hA0]; rfl
            have b3 : Act.eval a0 (.tmp 3) = pv (w.heap.size + 1) := by rw [← hA0]; rfl
            refine wp_region_held_drew (S := (fun W' => ∃ F', MkAt w W' 3 [(0, #[.int .i64 ((n : Nat) : Int), .slice x y z]), (1, #[.int .i64 ((m : Nat) : Int), .slice x1 y1 z1]), (2, #[.int .i64 0, .slice none 0 0])] B N (.slice (some ⟨g2, 0, none⟩) N z2) rbw F')) (by kernel_rfl) ⟨_, hA.drew⟩ (fun hS => ?_)
            refine anyS_take (i := 0) (d := some 24) (v := .pointer (some ⟨B, 1, none⟩)) hS rfl rfl (by kernel_rfl) (by kernel_rfl) (by kernel_rfl) (fun _ _ _ h => h) (by rfl) ?_ ?_
            · intro w9 hSw
              have e5 := b5
              have ec : ∀ v, Act.eval a0 (.const v) = v := fun _ => rfl
              have ef : ∀ f, Act.eval a0 (.func f) = .func (.func f) #[] #[] := fun _ => rfl
              generalize Act.eval a0 = ρ at *
              simp only [List.getElem_toArray, List.getElem_cons_zero]
              clear hSw
              go_simp
            refine anyS_take (i := 1) (d := some 25) (v := .slice (some ⟨g2, 0, none⟩) N z2) hS rfl rfl (by kernel_rfl) (by kernel_rfl) (by kernel_rfl) (fun _ _ _ h => h) (by rfl) ?_ ?_
            · intro w9 hSw
              have e24 : Act.eval (a0.put (some 24) (.pointer (some ⟨B, 1, none⟩))) (.tmp 24) = .pointer (some ⟨B, 1, none⟩) := by rw [Act.eval_put_same _ _ _ (by (repeat rw [Act.size_put]); omega)]
              have ec : ∀ v, Act.eval (a0.put (some 24) (.pointer (some ⟨B, 1, none⟩))) (.const v) = v := fun _ => rfl
              have ef : ∀ f, Act.eval (a0.put (some 24) (.pointer (some ⟨B, 1, none⟩))) (.func f) = .func (.func f) #[] #[] := fun _ => rfl
              generalize Act.eval (a0.put (some 24) (.pointer (some ⟨B, 1, none⟩))) = ρ at *
              simp only [List.getElem_toArray, List.getElem_cons_zero, List.getElem_cons_succ]
              obtain ⟨F9, hA9⟩ := hSw
              have d9 := hA9.box.cell (j := 1) rfl
              go_simp
            refine anyS_take (i := 2) (d := some 26) (v := .int .i64 ((a : Nat) : Int)) hS rfl rfl (by kernel_rfl) (by kernel_rfl) (by kernel_rfl) (fun _ _ _ h => h) (by rfl) ?_ ?_
            · intro w9 hSw
              have e6 : Act.eval ((a0.put (some 24) (.pointer (some ⟨B, 1, none⟩))).put (some 25) (.slice (some ⟨g2, 0, none⟩) N z2)) (.tmp 6) = .int .i64 ((a : Nat) : Int) := by rw [Act.eval_put_ne _ _ _ _ (by decide), Act.eval_put_ne _ _ _ _ (by decide), b6]
              have ec : ∀ v, Act.eval ((a0.put (some 24) (.pointer (some ⟨B, 1, none⟩))).put (some 25) (.slice (some ⟨g2, 0, none⟩) N z2)) (.const v) = v := fun _ => rfl
              have ef : ∀ f, Act.eval ((a0.put (some 24) (.pointer (some ⟨B, 1, none⟩))).put (some 25) (.slice (some ⟨g2, 0, none⟩) N z2)) (.func f) = .func (.func f) #[] #[] := fun _ => rfl
              generalize Act.eval ((a0.put (some 24) (.pointer (some ⟨B, 1, none⟩))).put (some 25) (.slice (some ⟨g2, 0, none⟩) N z2)) = ρ at *
              simp only [List.getElem_toArray, List.getElem_cons_zero, List.getElem_cons_succ]
              clear hSw
              go_simp
            refine anyS_take (i := 3) (d := some 27) (v := .pointer (some ⟨g2, a, none⟩)) hS rfl rfl (by kernel_rfl) (by kernel_rfl) (by kernel_rfl) (fun _ _ _ h => h) (by rfl) ?_ ?_
            · intro w9 hSw
              have e25 : Act.eval (((a0.put (some 24) (.pointer (some ⟨B, 1, none⟩))).put (some 25) (.slice (some ⟨g2, 0, none⟩) N z2)).put (some 26) (.int .i64 ((a : Nat) : Int))) (.tmp 25) = .slice (some ⟨g2, 0, none⟩) N z2 := by rw [Act.eval_put_ne _ _ _ _ (by decide), Act.eval_put_same _ _ _ (by (repeat rw [Act.size_put]); omega)]
              have e26 : Act.eval (((a0.put (some 24) (.pointer (some ⟨B, 1, none⟩))).put (some 25) (.slice (some ⟨g2, 0, none⟩) N z2)).put (some 26) (.int .i64 ((a : Nat) : Int))) (.tmp 26) = .int .i64 ((a : Nat) : Int) := by rw [Act.eval_put_same _ _ _ (by (repeat rw [Act.size_put]); omega)]
              have ec : ∀ v, Act.eval (((a0.put (some 24) (.pointer (some ⟨B, 1, none⟩))).put (some 25) (.slice (some ⟨g2, 0, none⟩) N z2)).put (some 26) (.int .i64 ((a : Nat) : Int))) (.const v) = v := fun _ => rfl
              have ef : ∀ f, Act.eval (((a0.put (some 24) (.pointer (some ⟨B, 1, none⟩))).put (some 25) (.slice (some ⟨g2, 0, none⟩) N z2)).put (some 26) (.int .i64 ((a : Nat) : Int))) (.func f) = .func (.func f) #[] #[] := fun _ => rfl
              generalize Act.eval (((a0.put (some 24) (.pointer (some ⟨B, 1, none⟩))).put (some 25) (.slice (some ⟨g2, 0, none⟩) N z2)).put (some 26) (.int .i64 ((a : Nat) : Int))) = ρ at *
              simp only [List.getElem_toArray, List.getElem_cons_zero, List.getElem_cons_succ]
              clear hSw
              go_simp
            refine anyS_take (i := 4) (d := some 28) (v := hdr N (rbw a)) hS rfl rfl (by kernel_rfl) (by kernel_rfl) (by kernel_rfl) (fun _ _ _ h => h) (by rfl) ?_ ?_
            · intro w9 hSw
              have e27 : Act.eval ((((a0.put (some 24) (.pointer (some ⟨B, 1, none⟩))).put (some 25) (.slice (some ⟨g2, 0, none⟩) N z2)).put (some 26) (.int .i64 ((a : Nat) : Int))).put (some 27) (.pointer (some ⟨g2, a, none⟩))) (.tmp 27) = .pointer (some ⟨g2, a, none⟩) := by rw [Act.eval_put_same _ _ _ (by (repeat rw [Act.size_put]); omega)]
              have ec : ∀ v, Act.eval ((((a0.put (some 24) (.pointer (some ⟨B, 1, none⟩))).put (some 25) (.slice (some ⟨g2, 0, none⟩) N z2)).put (some 26) (.int .i64 ((a : Nat) : Int))).put (some 27) (.pointer (some ⟨g2, a, none⟩))) (.const v) = v := fun _ => rfl
              have ef : ∀ f, Act.eval ((((a0.put (some 24) (.pointer (some ⟨B, 1, none⟩))).put (some 25) (.slice (some ⟨g2, 0, none⟩) N z2)).put (some 26) (.int .i64 ((a : Nat) : Int))).put (some 27) (.pointer (some ⟨g2, a, none⟩))) (.func f) = .func (.func f) #[] #[] := fun _ => rfl
              generalize Act.eval ((((a0.put (some 24) (.pointer (some ⟨B, 1, none⟩))).put (some 25) (.slice (some ⟨g2, 0, none⟩) N z2)).put (some 26) (.int .i64 ((a : Nat) : Int))).put (some 27) (.pointer (some ⟨g2, a, none⟩))) = ρ at *
              simp only [List.getElem_toArray, List.getElem_cons_zero, List.getElem_cons_succ]
              obtain ⟨F9, hA9⟩ := hSw
              obtain ⟨g9, cap9, e9, _, _, _, s9, _, _, _⟩ := hA9.ref.at_ (p := a) (q := b) haN hbN
              cases e9
              go_simp
            refine anyS_take (i := 5) (d := some 29) (v := .int .i64 ((b : Nat) : Int)) hS rfl rfl (by kernel_rfl) (by kernel_rfl) (by kernel_rfl) (fun _ _ _ h => h) (by rfl) ?_ ?_
            · intro w9 hSw
              have e7 : Act.eval (((((a0.put (some 24) (.pointer (some ⟨B, 1, none⟩))).put (some 25) (.slice (some ⟨g2, 0, none⟩) N z2)).put (some 26) (.int .i64 ((a : Nat) : Int))).put (some 27) (.pointer (some ⟨g2, a, none⟩))).put (some 28) (hdr N (rbw a))) (.tmp 7) = .int .i64 ((b : Nat) : Int) := by rw [Act.eval_put_ne _ _ _ _ (by decide), Act.eval_put_ne _ _ _ _ (by decide), Act.eval_put_ne _ _ _ _ (by decide), Act.eval_put_ne _ _ _ _ (by decide), Act.eval_put_ne _ _ _ _ (by decide), b7]
              have ec : ∀ v, Act.eval (((((a0.put (some 24) (.pointer (some ⟨B, 1, none⟩))).put (some 25) (.slice (some ⟨g2, 0, none⟩) N z2)).put (some 26) (.int .i64 ((a : Nat) : Int))).put (some 27) (.pointer (some ⟨g2, a, none⟩))).put (some 28) (hdr N (rbw a))) (.const v) = v := fun _ => rfl
              have ef : ∀ f, Act.eval (((((a0.put (some 24) (.pointer (some ⟨B, 1, none⟩))).put (some 25) (.slice (some ⟨g2, 0, none⟩) N z2)).put (some 26) (.int .i64 ((a : Nat) : Int))).put (some 27) (.pointer (some ⟨g2, a, none⟩))).put (some 28) (hdr N (rbw a))) (.func f) = .func (.func f) #[] #[] := fun _ => rfl
              generalize Act.eval (((((a0.put (some 24) (.pointer (some ⟨B, 1, none⟩))).put (some 25) (.slice (some ⟨g2, 0, none⟩) N z2)).put (some 26) (.int .i64 ((a : Nat) : Int))).put (some 27) (.pointer (some ⟨g2, a, none⟩))).put (some 28) (hdr N (rbw a))) = ρ at *
              simp only [List.getElem_toArray, List.getElem_cons_zero, List.getElem_cons_succ]
              clear hSw
              go_simp
            refine anyS_take (i := 6) (d := some 30) (v := .pointer (some ⟨B, 1, none⟩)) hS rfl rfl (by kernel_rfl) (by kernel_rfl) (by kernel_rfl) (fun _ _ _ h => h) (by rfl) ?_ ?_
            · intro w9 hSw
              have e5 : Act.eval ((((((a0.put (some 24) (.pointer (some ⟨B, 1, none⟩))).put (some 25) (.slice (some ⟨g2, 0, none⟩) N z2)).put (some 26) (.int .i64 ((a : Nat) : Int))).put (some 27) (.pointer (some ⟨g2, a, none⟩))).put (some 28) (hdr N (rbw a))).put (some 29) (.int .i64 ((b : Nat) : Int))) (.tmp 5) = pv B := by rw [Act.eval_put_ne _ _ _ _ (by decide), Act.eval_put_ne _ _ _ _ (by decide), Act.eval_put_ne _ _ _ _ (by decide), Act.eval_put_ne _ _ _ _ (by decide), Act.eval_put_ne _ _ _ _ (by decide), Act.eval_put_ne _ _ _ _ (by decide), b5]
              have ec : ∀ v, Act.eval ((((((a0.put (some 24) (.pointer (some ⟨B, 1, none⟩))).put (some 25) (.slice (some ⟨g2, 0, none⟩) N z2)).put (some 26) (.int .i64 ((a : Nat) : Int))).put (some 27) (.pointer (some ⟨g2, a, none⟩))).put (some 28) (hdr N (rbw a))).put (some 29) (.int .i64 ((b : Nat) : Int))) (.const v) = v := fun _ => rfl
              have ef : ∀ f, Act.eval ((((((a0.put (some 24) (.pointer (some ⟨B, 1, none⟩))).put (some 25) (.slice (some ⟨g2, 0, none⟩) N z2)).put (some 26) (.int .i64 ((a : Nat) : Int))).put (some 27) (.pointer (some ⟨g2, a, none⟩))).put (some 28) (hdr N (rbw a))).put (some 29) (.int .i64 ((b : Nat) : Int))) (.func f) = .func (.func f) #[] #[] := fun _ => rfl
              generalize Act.eval ((((((a0.put (some 24) (.pointer (some ⟨B, 1, none⟩))).put (some 25) (.slice (some ⟨g2, 0, none⟩) N z2)).put (some 26) (.int .i64 ((a : Nat) : Int))).put (some 27) (.pointer (some ⟨g2, a, none⟩))).put (some 28) (hdr N (rbw a))).put (some 29) (.int .i64 ((b : Nat) : Int))) = ρ at *
              simp only [List.getElem_toArray, List.getElem_cons_zero, List.getElem_cons_succ]
              clear hSw
              go_simp
            refine anyS_take (i := 7) (d := some 31) (v := .slice (some ⟨g2, 0, none⟩) N z2) hS rfl rfl (by kernel_rfl) (by kernel_rfl) (by kernel_rfl) (fun _ _ _ h => h) (by rfl) ?_ ?_
            · intro w9 hSw
              have e30 : Act.eval (((((((a0.put (some 24) (.pointer (some ⟨B, 1, none⟩))).put (some 25) (.slice (some ⟨g2, 0, none⟩) N z2)).put (some 26) (.int .i64 ((a : Nat) : Int))).put (some 27) (.pointer (some ⟨g2, a, none⟩))).put (some 28) (hdr N (rbw a))).put (some 29) (.int .i64 ((b : Nat) : Int))).put (some 30) (.pointer (some ⟨B, 1, none⟩))) (.tmp 30) = .pointer (some ⟨B, 1, none⟩) := by rw [Act.eval_put_same _ _ _ (by (repeat rw [Act.size_put]); omega)]
              have ec : ∀ v, Act.eval (((((((a0.put (some 24) (.pointer (some ⟨B, 1, none⟩))).put (some 25) (.slice (some ⟨g2, 0, none⟩) N z2)).put (some 26) (.int .i64 ((a : Nat) : Int))).put (some 27) (.pointer (some ⟨g2, a, none⟩))).put (some 28) (hdr N (rbw a))).put (some 29) (.int .i64 ((b : Nat) : Int))).put (some 30) (.pointer (some ⟨B, 1, none⟩))) (.const v) = v := fun _ => rfl
              have ef : ∀ f, Act.eval (((((((a0.put (some 24) (.pointer (some ⟨B, 1, none⟩))).put (some 25) (.slice (some ⟨g2, 0, none⟩) N z2)).put (some 26) (.int .i64 ((a : Nat) : Int))).put (some 27) (.pointer (some ⟨g2, a, none⟩))).put (some 28) (hdr N (rbw a))).put (some 29) (.int .i64 ((b : Nat) : Int))).put (some 30) (.pointer (some ⟨B, 1, none⟩))) (.func f) = .func (.func f) #[] #[] := fun _ => rfl
              generalize Act.eval (((((((a0.put (some 24) (.pointer (some ⟨B, 1, none⟩))).put (some 25) (.slice (some ⟨g2, 0, none⟩) N z2)).put (some 26) (.int .i64 ((a : Nat) : Int))).put (some 27) (.pointer (some ⟨g2, a, none⟩))).put (some 28) (hdr N (rbw a))).put (some 29) (.int .i64 ((b : Nat) : Int))).put (some 30) (.pointer (some ⟨B, 1, none⟩))) = ρ at *
              simp only [List.getElem_toArray, List.getElem_cons_zero, List.getElem_cons_succ]
              obtain ⟨F9, hA9⟩ := hSw
              have d9 := hA9.box.cell (j := 1) rfl
              go_simp
            refine anyS_take (i := 8) (d := some 32) (v := .int .i64 ((a : Nat) : Int)) hS rfl rfl (by kernel_rfl) (by kernel_rfl) (by kernel_rfl) (fun _ _ _ h => h) (by rfl) ?_ ?_
            · intro w9 hSw
              have e6 : Act.eval ((((((((a0.put (some 24) (.pointer (some ⟨B, 1, none⟩))).put (some 25) (.slice (some ⟨g2, 0, none⟩) N z2)).put (some 26) (.int .i64 ((a : Nat) : Int))).put (some 27) (.pointer (some ⟨g2, a, none⟩))).put (some 28) (hdr N (rbw a))).put (some 29) (.int .i64 ((b : Nat) : Int))).put (some 30) (.pointer (some ⟨B, 1, none⟩))).put (some 31) (.slice (some ⟨g2, 0, none⟩) N z2)) (.tmp 6) = .int .i64 ((a : Nat) : Int) := by rw [Act.eval_put_ne _ _ _ _ (by decide), Act.eval_put_ne _ _ _ _ (by decide), Act.eval_put_ne _ _ _ _ (by decide), Act.eval_put_ne _ _ _ _ (by decide), Act.eval_put_ne _ _ _ _ (by decide), Act.eval_put_ne _ _ _ _ (by decide), Act.eval_put_ne _ _ _ _ (by decide), Act.eval_put_ne _ _ _ _ (by decide), b6]
              have ec : ∀ v, Act.eval ((((((((a0.put (some 24) (.pointer (some ⟨B, 1, none⟩))).put (some 25) (.slice (some ⟨g2, 0, none⟩) N z2)).put (some 26) (.int .i64 ((a : Nat) : Int))).put (some 27) (.pointer (some ⟨g2, a, none⟩))).put (some 28) (hdr N (rbw a))).put (some 29) (.int .i64 ((b : Nat) : Int))).put (some 30) (.pointer (some ⟨B, 1, none⟩))).put (some 31) (.slice (some ⟨g2, 0, none⟩) N z2)) (.const v) = v := fun _ => rfl
              have ef : ∀ f, Act.eval ((((((((a0.put (some 24) (.pointer (some ⟨B, 1, none⟩))).put (some 25) (.slice (some ⟨g2, 0, none⟩) N z2)).put (some 26) (.int .i64 ((a : Nat) : Int))).put (some 27) (.pointer (some ⟨g2, a, none⟩))).put (some 28) (hdr N (rbw a))).put (some 29) (.int .i64 ((b : Nat) : Int))).put (some 30) (.pointer (some ⟨B, 1, none⟩))).put (some 31) (.slice (some ⟨g2, 0, none⟩) N z2)) (.func f) = .func (.func f) #[] #[] := fun _ => rfl
              generalize Act.eval ((((((((a0.put (some 24) (.pointer (some ⟨B, 1, none⟩))).put (some 25) (.slice (some ⟨g2, 0, none⟩) N z2)).put (some 26) (.int .i64 ((a : Nat) : Int))).put (some 27) (.pointer (some ⟨g2, a, none⟩))).put (some 28) (hdr N (rbw a))).put (some 29) (.int .i64 ((b : Nat) : Int))).put (some 30) (.pointer (some ⟨B, 1, none⟩))).put (some 31) (.slice (some ⟨g2, 0, none⟩) N z2)) = ρ at *
              simp only [List.getElem_toArray, List.getElem_cons_zero, List.getElem_cons_succ]
              clear hSw
              go_simp
            refine anyS_take (i := 9) (d := some 33) (v := .pointer (some ⟨g2, a, none⟩)) hS rfl rfl (by kernel_rfl) (by kernel_rfl) (by kernel_rfl) (fun _ _ _ h => h) (by rfl) ?_ ?_
            · intro w9 hSw
              have e31 : Act.eval (((((((((a0.put (some 24) (.pointer (some ⟨B, 1, none⟩))).put (some 25) (.slice (some ⟨g2, 0, none⟩) N z2)).put (some 26) (.int .i64 ((a : Nat) : Int))).put (some 27) (.pointer (some ⟨g2, a, none⟩))).put (some 28) (hdr N (rbw a))).put (some 29) (.int .i64 ((b : Nat) : Int))).put (some 30) (.pointer (some ⟨B, 1, none⟩))).put (some 31) (.slice (some ⟨g2, 0, none⟩) N z2)).put (some 32) (.int .i64 ((a : Nat) : Int))) (.tmp 31) = .slice (some ⟨g2, 0, none⟩) N z2 := by rw [Act.eval_put_ne _ _ _ _ (by decide), Act.eval_put_same _ _ _ (by (repeat rw [Act.size_put]); omega)]
              have e32 : Act.eval (((((((((a0.put (some 24) (.pointer (some ⟨B, 1, none⟩))).put (some 25) (.slice (some ⟨g2, 0, none⟩) N z2)).put (some 26) (.int .i64 ((a : Nat) : Int))).put (some 27) (.pointer (some ⟨g2, a, none⟩))).put (some 28) (hdr N (rbw a))).put (some 29) (.int .i64 ((b : Nat) : Int))).put (some 30) (.pointer (some ⟨B, 1, none⟩))).put (some 31) (.slice (some ⟨g2, 0, none⟩) N z2)).put (some 32) (.int .i64 ((a : Nat) : Int))) (.tmp 32) = .int .i64 ((a : Nat) : Int) := by rw [Act.eval_put_same _ _ _ (by (repeat rw [Act.size_put]); omega)]
              have ec : ∀ v, Act.eval (((((((((a0.put (some 24) (.pointer (some ⟨B, 1, none⟩))).put (some 25) (.slice (some ⟨g2, 0, none⟩) N z2)).put (some 26) (.int .i64 ((a : Nat) : Int))).put (some 27) (.pointer (some ⟨g2, a, none⟩))).put (some 28) (hdr N (rbw a))).put (some 29) (.int .i64 ((b : Nat) : Int))).put (some 30) (.pointer (some ⟨B, 1, none⟩))).put (some 31) (.slice (some ⟨g2, 0, none⟩) N z2)).put (some 32) (.int .i64 ((a : Nat) : Int))) (.const v) = v := fun _ => rfl
              have ef : ∀ f, Act.eval (((((((((a0.put (some 24) (.pointer (some ⟨B, 1, none⟩))).put (some 25) (.slice (some ⟨g2, 0, none⟩) N z2)).put (some 26) (.int .i64 ((a : Nat) : Int))).put (some 27) (.pointer (some ⟨g2, a, none⟩))).put (some 28) (hdr N (rbw a))).put (some 29) (.int .i64 ((b : Nat) : Int))).put (some 30) (.pointer (some ⟨B, 1, none⟩))).put (some 31) (.slice (some ⟨g2, 0, none⟩) N z2)).put (some 32) (.int .i64 ((a : Nat) : Int))) (.func f) = .func (.func f) #[] #[] := fun _ => rfl
              generalize Act.eval (((((((((a0.put (some 24) (.pointer (some ⟨B, 1, none⟩))).put (some 25) (.slice (some ⟨g2, 0, none⟩) N z2)).put (some 26) (.int .i64 ((a : Nat) : Int))).put (some 27) (.pointer (some ⟨g2, a, none⟩))).put (some 28) (hdr N (rbw a))).put (some 29) (.int .i64 ((b : Nat) : Int))).put (some 30) (.pointer (some ⟨B, 1, none⟩))).put (some 31) (.slice (some ⟨g2, 0, none⟩) N z2)).put (some 32) (.int .i64 ((a : Nat) : Int))) = ρ at *
              simp only [List.getElem_toArray, List.getElem_cons_zero, List.getElem_cons_succ]
              clear hSw
              go_simp
            refine anyS_take (i := 10) (d := some 34) (v := hdr N (rbw a)) hS rfl rfl (by kernel_rfl) (by kernel_rfl) (by kernel_rfl) (fun _ _ _ h => h) (by rfl) ?_ ?_
            · intro w9 hSw
              have e33 : Act.eval ((((((((((a0.put (some 24) (.pointer (some ⟨B, 1, none⟩))).put (some 25) (.slice (some ⟨g2, 0, none⟩) N z2)).put (some 26) (.int .i64 ((a : Nat) : Int))).put (some 27) (.pointer (some ⟨g2, a, none⟩))).put (some 28) (hdr N (rbw a))).put (some 29) (.int .i64 ((b : Nat) : Int))).put (some 30) (.pointer (some ⟨B, 1, none⟩))).put (some 31) (.slice (some ⟨g2, 0, none⟩) N z2)).put (some 32) (.int .i64 ((a : Nat) : Int))).put (some 33) (.pointer (some ⟨g2, a, none⟩))) (.tmp 33) = .pointer (some ⟨g2, a, none⟩) := by rw [Act.eval_put_same _ _ _ (by (repeat rw [Act.size_put]); omega)]
              have ec : ∀ v, Act.eval ((((((((((a0.put (some 24) (.pointer (some ⟨B, 1, none⟩))).put (some 25) (.slice (some ⟨g2, 0, none⟩) N z2)).put (some 26) (.int .i64 ((a : Nat) : Int))).put (some 27) (.pointer (some ⟨g2, a, none⟩))).put (some 28) (hdr N (rbw a))).put (some 29) (.int .i64 ((b : Nat) : Int))).put (some 30) (.pointer (some ⟨B, 1, none⟩))).put (some 31) (.slice (some ⟨g2, 0, none⟩) N z2)).put (some 32) (.int .i64 ((a : Nat) : Int))).put (some 33) (.pointer (some ⟨g2, a, none⟩))) (.const v) = v := fun _ => rfl
              have ef : ∀ f, Act.eval ((((((((((a0.put (some 24) (.pointer (some ⟨B, 1, none⟩))).put (some 25) (.slice (some ⟨g2, 0, none⟩) N z2)).put (some 26) (.int .i64 ((a : Nat) : Int))).put (some 27) (.pointer (some ⟨g2, a, none⟩))).put (some 28) (hdr N (rbw a))).put (some 29) (.int .i64 ((b : Nat) : Int))).put (some 30) (.pointer (some ⟨B, 1, none⟩))).put (some 31) (.slice (some ⟨g2, 0, none⟩) N z2)).put (some 32) (.int .i64 ((a : Nat) : Int))).put (some 33) (.pointer (some ⟨g2, a, none⟩))) (.func f) = .func (.func f) #[] #[] := fun _ => rfl
              generalize Act.eval ((((((((((a0.put (some 24) (.pointer (some ⟨B, 1, none⟩))).put (some 25) (.slice (some ⟨g2, 0, none⟩) N z2)).put (some 26) (.int .i64 ((a : Nat) : Int))).put (some 27) (.pointer (some ⟨g2, a, none⟩))).put (some 28) (hdr N (rbw a))).put (some 29) (.int .i64 ((b : Nat) : Int))).put (some 30) (.pointer (some ⟨B, 1, none⟩))).put (some 31) (.slice (some ⟨g2, 0, none⟩) N z2)).put (some 32) (.int .i64 ((a : Nat) : Int))).put (some 33) (.pointer (some ⟨g2, a, none⟩))) = ρ at *
              simp only [List.getElem_toArray, List.getElem_cons_zero, List.getElem_cons_succ]
              obtain ⟨F9, hA9⟩ := hSw
              obtain ⟨g9, cap9, e9, _, _, _, s9, _, _, _⟩ := hA9.ref.at_ (p := a) (q := b) haN hbN
              cases e9
              go_simp
            refine anyS_take (i := 11) (d := some 35) (v := .int .i64 ((b : Nat) : Int)) hS rfl rfl (by kernel_rfl) (by kernel_rfl) (by kernel_rfl) (fun _ _ _ h => h) (by rfl) ?_ ?_
            · intro w9 hSw
              have e7 : Act.eval (((((((((((a0.put (some 24) (.pointer (some ⟨B, 1, none⟩))).put (some 25) (.slice (some ⟨g2, 0, none⟩) N z2)).put (some 26) (.int .i64 ((a : Nat) : Int))).put (some 27) (.pointer (some ⟨g2, a, none⟩))).put (some 28) (hdr N (rbw a))).put (some 29) (.int .i64 ((b : Nat) : Int))).put (some 30) (.pointer (some ⟨B, 1, none⟩))).put (some 31) (.slice (some ⟨g2, 0, none⟩) N z2)).put (some 32) (.int .i64 ((a : Nat) : Int))).put (some 33) (.pointer (some ⟨g2, a, none⟩))).put (some 34) (hdr N (rbw a))) (.tmp 7) = .int .i64 ((b : Nat) : Int) := by rw [Act.eval_put_ne _ _ _ _ (by decide), Act.eval_put_ne _ _ _ _ (by decide), Act.eval_put_ne _ _ _ _ (by decide), Act.eval_put_ne _ _ _ _ (by decide), Act.eval_put_ne _ _ _ _ (by decide), Act.eval_put_ne _ _ _ _ (by decide), Act.eval_put_ne _ _ _ _ (by decide), Act.eval_put_ne _ _ _ _ (by decide), Act.eval_put_ne _ _ _ _ (by decide), Act.eval_put_ne _ _ _ _ (by decide), Act.eval_put_ne _ _ _ _ (by decide), b7]
              have ec : ∀ v, Act.eval (((((((((((a0.put (some 24) (.pointer (some ⟨B, 1, none⟩))).put (some 25) (.slice (some ⟨g2, 0, none⟩) N z2)).put (some 26) (.int .i64 ((a : Nat) : Int))).put (some 27) (.pointer (some ⟨g2, a, none⟩))).put (some 28) (hdr N (rbw a))).put (some 29) (.int .i64 ((b : Nat) : Int))).put (some 30) (.pointer (some ⟨B, 1, none⟩))).put (some 31) (.slice (some ⟨g2, 0, none⟩) N z2)).put (some 32) (.int .i64 ((a : Nat) : Int))).put (some 33) (.pointer (some ⟨g2, a, none⟩))).put (some 34) (hdr N (rbw a))) (.const v) = v := fun _ => rfl
              have ef : ∀ f, Act.eval (((((((((((a0.put (some 24) (.pointer (some ⟨B, 1, none⟩))).put (some 25) (.slice (some ⟨g2, 0, none⟩) N z2)).put (some 26) (.int .i64 ((a : Nat) : Int))).put (some 27) (.pointer (some ⟨g2, a, none⟩))).put (some 28) (hdr N (rbw a))).put (some 29) (.int .i64 ((b : Nat) : Int))).put (some 30) (.pointer (some ⟨B, 1, none⟩))).put (some 31) (.slice (some ⟨g2, 0, none⟩) N z2)).put (some 32) (.int .i64 ((a : Nat) : Int))).put (some 33) (.pointer (some ⟨g2, a, none⟩))).put (some 34) (hdr N (rbw a))) (.func f) = .func (.func f) #[] #[] := fun _ => rfl
              generalize Act.eval (((((((((((a0.put (some 24) (.pointer (some ⟨B, 1, none⟩))).put (some 25) (.slice (some ⟨g2, 0, none⟩) N z2)).put (some 26) (.int .i64 ((a : Nat) : Int))).put (some 27) (.pointer (some ⟨g2, a, none⟩))).put (some 28) (hdr N (rbw a))).put (some 29) (.int .i64 ((b : Nat) : Int))).put (some 30) (.pointer (some ⟨B, 1, none⟩))).put (some 31) (.slice (some ⟨g2, 0, none⟩) N z2)).put (some 32) (.int .i64 ((a : Nat) : Int))).put (some 33) (.pointer (some ⟨g2, a, none⟩))).put (some 34) (hdr N (rbw a))) = ρ at *
              simp only [List.getElem_toArray, List.getElem_cons_zero, List.getElem_cons_succ]
              clear hSw
              go_simp
            refine anyS_take (i := 12) (d := some 36) (v := .pointer (some ⟨rbw a, b, none⟩)) hS rfl rfl (by kernel_rfl) (by kernel_rfl) (by kernel_rfl) (fun _ _ _ h => h) (by rfl) ?_ ?_
            · intro w9 hSw
              have e34 : Act.eval ((((((((((((a0.put (some 24) (.pointer (some ⟨B, 1, none⟩))).put (some 25) (.slice (some ⟨g2, 0, none⟩) N z2)).put (some 26) (.int .i64 ((a : Nat) : Int))).put (some 27) (.pointer (some ⟨g2, a, none⟩))).put (some 28) (hdr N (rbw a))).put (some 29) (.int .i64 ((b : Nat) : Int))).put (some 30) (.pointer (some ⟨B, 1, none⟩))).put (some 31) (.slice (some ⟨g2, 0, none⟩) N z2)).put (some 32) (.int .i64 ((a : Nat) : Int))).put (some 33) (.pointer (some ⟨g2, a, none⟩))).put (some 34) (hdr N (rbw a))).put (some 35) (.int .i64 ((b : Nat) : Int))) (.tmp 34) = hdr N (rbw a) := by rw [Act.eval_put_ne _ _ _ _ (by decide), Act.eval_put_same _ _ _ (by (repeat rw [Act.size_put]); omega)]
              have e35 : Act.eval ((((((((((((a0.put (some 24) (.pointer (some ⟨B, 1, none⟩))).put (some 25) (.slice (some ⟨g2, 0, none⟩) N z2)).put (some 26) (.int .i64 ((a : Nat) : Int))).put (some 27) (.pointer (some ⟨g2, a, none⟩))).put (some 28) (hdr N (rbw a))).put (some 29) (.int .i64 ((b : Nat) : Int))).put (some 30) (.pointer (some ⟨B, 1, none⟩))).put (some 31) (.slice (some ⟨g2, 0, none⟩) N z2)).put (some 32) (.int .i64 ((a : Nat) : Int))).put (some 33) (.pointer (some ⟨g2, a, none⟩))).put (some 34) (hdr N (rbw a))).put (some 35) (.int .i64 ((b : Nat) : Int))) (.tmp 35) = .int .i64 ((b : Nat) : Int) := by rw [Act.eval_put_same _ _ _ (by (repeat rw [Act.size_put]); omega)]
              have ec : ∀ v, Act.eval ((((((((((((a0.put (some 24) (.pointer (some ⟨B, 1, none⟩))).put (some 25) (.slice (some ⟨g2, 0, none⟩) N z2)).put (some 26) (.int .i64 ((a : Nat) : Int))).put (some 27) (.pointer (some ⟨g2, a, none⟩))).put (some 28) (hdr N (rbw a))).put (some 29) (.int .i64 ((b : Nat) : Int))).put (some 30) (.pointer (some ⟨B, 1, none⟩))).put (some 31) (.slice (some ⟨g2, 0, none⟩) N z2)).put (some 32) (.int .i64 ((a : Nat) : Int))).put (some 33) (.pointer (some ⟨g2, a, none⟩))).put (some 34) (hdr N (rbw a))).put (some 35) (.int .i64 ((b : Nat) : Int))) (.const v) = v := fun _ => rfl
              have ef : ∀ f, Act.eval ((((((((((((a0.put (some 24) (.pointer (some ⟨B, 1, none⟩))).put (some 25) (.slice (some ⟨g2, 0, none⟩) N z2)).put (some 26) (.int .i64 ((a : Nat) : Int))).put (some 27) (.pointer (some ⟨g2, a, none⟩))).put (some 28) (hdr N (rbw a))).put (some 29) (.int .i64 ((b : Nat) : Int))).put (some 30) (.pointer (some ⟨B, 1, none⟩))).put (some 31) (.slice (some ⟨g2, 0, none⟩) N z2)).put (some 32) (.int .i64 ((a : Nat) : Int))).put (some 33) (.pointer (some ⟨g2, a, none⟩))).put (some 34) (hdr N (rbw a))).put (some 35) (.int .i64 ((b : Nat) : Int))) (.func f) = .func (.func f) #[] #[] := fun _ => rfl
              generalize Act.eval ((((((((((((a0.put (some 24) (.pointer (some ⟨B, 1, none⟩))).put (some 25) (.slice (some ⟨g2, 0, none⟩) N z2)).put (some 26) (.int .i64 ((a : Nat) : Int))).put (some 27) (.pointer (some ⟨g2, a, none⟩))).put (some 28) (hdr N (rbw a))).put (some 29) (.int .i64 ((b : Nat) : Int))).put (some 30) (.pointer (some ⟨B, 1, none⟩))).put (some 31) (.slice (some ⟨g2, 0, none⟩) N z2)).put (some 32) (.int .i64 ((a : Nat) : Int))).put (some 33) (.pointer (some ⟨g2, a, none⟩))).put (some 34) (hdr N (rbw a))).put (some 35) (.int .i64 ((b : Nat) : Int))) = ρ at *
              simp only [List.getElem_toArray, List.getElem_cons_zero, List.getElem_cons_succ]
              clear hSw
              go_simp
            refine wpAnyH_ready (rs := [13]) (by kernel_rfl) (by simp) ?_
            refine anyS_value (i := 13) (d := some 37) (v := .bool true) (w' := wr.drew) rfl rfl (by rfl) ?_ hS ?_ AllReadyH.nil
            · skip
              have e36 : Act.eval (((((((((((((a0.put (some 24) (.pointer (some ⟨B, 1, none⟩))).put (some 25) (.slice (some ⟨g2, 0, none⟩) N z2)).put (some 26) (.int .i64 ((a : Nat) : Int))).put (some 27) (.pointer (some ⟨g2, a, none⟩))).put (some 28) (hdr N (rbw a))).put (some 29) (.int .i64 ((b : Nat) : Int))).put (some 30) (.pointer (some ⟨B, 1, none⟩))).put (some 31) (.slice (some ⟨g2, 0, none⟩) N z2)).put (some 32) (.int .i64 ((a : Nat) : Int))).put (some 33) (.pointer (some ⟨g2, a, none⟩))).put (some 34) (hdr N (rbw a))).put (some 35) (.int .i64 ((b : Nat) : Int))).put (some 36) (.pointer (some ⟨rbw a, b, none⟩))) (.tmp 36) = .pointer (some ⟨rbw a, b, none⟩) := by rw [Act.eval_put_same _ _ _ (by (repeat rw [Act.size_put]); omega)]
              have ec : ∀ v, Act.eval (((((((((((((a0.put (some 24) (.pointer (some ⟨B, 1, none⟩))).put (some 25) (.slice (some ⟨g2, 0, none⟩) N z2)).put (some 26) (.int .i64 ((a : Nat) : Int))).put (some 27) (.pointer (some ⟨g2, a, none⟩))).put (some 28) (hdr N (rbw a))).put (some 29) (.int .i64 ((b : Nat) : Int))).put (some 30) (.pointer (some ⟨B, 1, none⟩))).put (some 31) (.slice (some ⟨g2, 0, none⟩) N z2)).put (some 32) (.int .i64 ((a : Nat) : Int))).put (some 33) (.pointer (some ⟨g2, a, none⟩))).put (some 34) (hdr N (rbw a))).put (some 35) (.int .i64 ((b : Nat) : Int))).put (some 36) (.pointer (some ⟨rbw a, b, none⟩))) (.const v) = v := fun _ => rfl
              have ef : ∀ f, Act.eval (((((((((((((a0.put (some 24) (.pointer (some ⟨B, 1, none⟩))).put (some 25) (.slice (some ⟨g2, 0, none⟩) N z2)).put (some 26) (.int .i64 ((a : Nat) : Int))).put (some 27) (.pointer (some ⟨g2, a, none⟩))).put (some 28) (hdr N (rbw a))).put (some 29) (.int .i64 ((b : Nat) : Int))).put (some 30) (.pointer (some ⟨B, 1, none⟩))).put (some 31) (.slice (some ⟨g2, 0, none⟩) N z2)).put (some 32) (.int .i64 ((a : Nat) : Int))).put (some 33) (.pointer (some ⟨g2, a, none⟩))).put (some 34) (hdr N (rbw a))).put (some 35) (.int .i64 ((b : Nat) : Int))).put (some 36) (.pointer (some ⟨rbw a, b, none⟩))) (.func f) = .func (.func f) #[] #[] := fun _ => rfl
              generalize Act.eval (((((((((((((a0.put (some 24) (.pointer (some ⟨B, 1, none⟩))).put (some 25) (.slice (some ⟨g2, 0, none⟩) N z2)).put (some 26) (.int .i64 ((a : Nat) : Int))).put (some 27) (.pointer (some ⟨g2, a, none⟩))).put (some 28) (hdr N (rbw a))).put (some 29) (.int .i64 ((b : Nat) : Int))).put (some 30) (.pointer (some ⟨B, 1, none⟩))).put (some 31) (.slice (some ⟨g2, 0, none⟩) N z2)).put (some 32) (.int .i64 ((a : Nat) : Int))).put (some 33) (.pointer (some ⟨g2, a, none⟩))).put (some 34) (hdr N (rbw a))).put (some 35) (.int .i64 ((b : Nat) : Int))).put (some 36) (.pointer (some ⟨rbw a, b, none⟩))) = ρ at *
              simp only [List.getElem_toArray, List.getElem_cons_zero, List.getElem_cons_succ]
              go_simp
            refine anyS_take (i := 14) (d := some 38) (v := .bool true) hS rfl rfl (by kernel_rfl) (by kernel_rfl) (by kernel_rfl) (fun _ _ _ h => h) (by rfl) ?_ ?_
            · intro w9 hSw
              have e37 : Act.eval ((((((((((((((a0.put (some 24) (.pointer (some ⟨B, 1, none⟩))).put (some 25) (.slice (some ⟨g2, 0, none⟩) N z2)).put (some 26) (.int .i64 ((a : Nat) : Int))).put (some 27) (.pointer (some ⟨g2, a, none⟩))).put (some 28) (hdr N (rbw a))).put (some 29) (.int .i64 ((b : Nat) : Int))).put (some 30) (.pointer (some ⟨B, 1, none⟩))).put (some 31) (.slice (some ⟨g2, 0, none⟩) N z2)).put (some 32) (.int .i64 ((a : Nat) : Int))).put (some 33) (.pointer (some ⟨g2, a, none⟩))).put (some 34) (hdr N (rbw a))).put (some 35) (.int .i64 ((b : Nat) : Int))).put (some 36) (.pointer (some ⟨rbw a, b, none⟩))).put (some 37) (.bool true)) (.tmp 37) = .bool true := by rw [Act.eval_put_same _ _ _ (by (repeat rw [Act.size_put]); omega)]
              have ec : ∀ v, Act.eval ((((((((((((((a0.put (some 24) (.pointer (some ⟨B, 1, none⟩))).put (some 25) (.slice (some ⟨g2, 0, none⟩) N z2)).put (some 26) (.int .i64 ((a : Nat) : Int))).put (some 27) (.pointer (some ⟨g2, a, none⟩))).put (some 28) (hdr N (rbw a))).put (some 29) (.int .i64 ((b : Nat) : Int))).put (some 30) (.pointer (some ⟨B, 1, none⟩))).put (some 31) (.slice (some ⟨g2, 0, none⟩) N z2)).put (some 32) (.int .i64 ((a : Nat) : Int))).put (some 33) (.pointer (some ⟨g2, a, none⟩))).put (some 34) (hdr N (rbw a))).put (some 35) (.int .i64 ((b : Nat) : Int))).put (some 36) (.pointer (some ⟨rbw a, b, none⟩))).put (some 37) (.bool true)) (.const v) = v := fun _ => rfl
              have ef : ∀ f, Act.eval ((((((((((((((a0.put (some 24) (.pointer (some ⟨B, 1, none⟩))).put (some 25) (.slice (some ⟨g2, 0, none⟩) N z2)).put (some 26) (.int .i64 ((a : Nat) : Int))).put (some 27) (.pointer (some ⟨g2, a, none⟩))).put (some 28) (hdr N (rbw a))).put (some 29) (.int .i64 ((b : Nat) : Int))).put (some 30) (.pointer (some ⟨B, 1, none⟩))).put (some 31) (.slice (some ⟨g2, 0, none⟩) N z2)).put (some 32) (.int .i64 ((a : Nat) : Int))).put (some 33) (.pointer (some ⟨g2, a, none⟩))).put (some 34) (hdr N (rbw a))).put (some 35) (.int .i64 ((b : Nat) : Int))).put (some 36) (.pointer (some ⟨rbw a, b, none⟩))).put (some 37) (.bool true)) (.func f) = .func (.func f) #[] #[] := fun _ => rfl
              generalize Act.eval ((((((((((((((a0.put (some 24) (.pointer (some ⟨B, 1, none⟩))).put (some 25) (.slice (some ⟨g2, 0, none⟩) N z2)).put (some 26) (.int .i64 ((a : Nat) : Int))).put (some 27) (.pointer (some ⟨g2, a, none⟩))).put (some 28) (hdr N (rbw a))).put (some 29) (.int .i64 ((b : Nat) : Int))).put (some 30) (.pointer (some ⟨B, 1, none⟩))).put (some 31) (.slice (some ⟨g2, 0, none⟩) N z2)).put (some 32) (.int .i64 ((a : Nat) : Int))).put (some 33) (.pointer (some ⟨g2, a, none⟩))).put (some 34) (hdr N (rbw a))).put (some 35) (.int .i64 ((b : Nat) : Int))).put (some 36) (.pointer (some ⟨rbw a, b, none⟩))).put (some 37) (.bool true)) = ρ at *
              simp only [List.getElem_toArray, List.getElem_cons_zero, List.getElem_cons_succ]
              clear hSw
              go_simp
            refine anyS_take (i := 15) (d := some 39) (v := .agg #[.int .i64 ((m : Nat) : Int), .slice x1 y1 z1]) hS rfl rfl (by kernel_rfl) (by kernel_rfl) (by kernel_rfl) (fun _ _ _ h => h) (wanted_guard (j := 14) (d := 38) (want := true) rfl rfl (by rw [tmp_put_same _ _ _ (by (repeat rw [Act.size_put]); omega)])) ?_ ?_
            · intro w9 hSw
              have e3 : Act.eval (((((((((((((((a0.put (some 24) (.pointer (some ⟨B, 1, none⟩))).put (some 25) (.slice (some ⟨g2, 0, none⟩) N z2)).put (some 26) (.int .i64 ((a : Nat) : Int))).put (some 27) (.pointer (some ⟨g2, a, none⟩))).put (some 28) (hdr N (rbw a))).put (some 29) (.int .i64 ((b : Nat) : Int))).put (some 30) (.pointer (some ⟨B, 1, none⟩))).put (some 31) (.slice (some ⟨g2, 0, none⟩) N z2)).put (some 32) (.int .i64 ((a : Nat) : Int))).put (some 33) (.pointer (some ⟨g2, a, none⟩))).put (some 34) (hdr N (rbw a))).put (some 35) (.int .i64 ((b : Nat) : Int))).put (some 36) (.pointer (some ⟨rbw a, b, none⟩))).put (some 37) (.bool true)).put (some 38) (.bool true)) (.tmp 3) = pv (w.heap.size + 1) := by rw [Act.eval_put_ne _ _ _ _ (by decide), Act.eval_put_ne _ _ _ _ (by decide), Act.eval_put_ne _ _ _ _ (by decide), Act.eval_put_ne _ _ _ _ (by decide), Act.eval_put_ne _ _ _ _ (by decide), Act.eval_put_ne _ _ _ _ (by decide), Act.eval_put_ne _ _ _ _ (by decide), Act.eval_put_ne _ _ _ _ (by decide), Act.eval_put_ne _ _ _ _ (by decide), Act.eval_put_ne _ _ _ _ (by decide), Act.eval_put_ne _ _ _ _ (by decide), Act.eval_put_ne _ _ _ _ (by decide), Act.eval_put_ne _ _ _ _ (by decide), Act.eval_put_ne _ _ _ _ (by decide), Act.eval_put_ne _ _ _ _ (by decide), b3]
              have ec : ∀ v, Act.eval (((((((((((((((a0.put (some 24) (.pointer (some ⟨B, 1, none⟩))).put (some 25) (.slice (some ⟨g2, 0, none⟩) N z2)).put (some 26) (.int .i64 ((a : Nat) : Int))).put (some 27) (.pointer (some ⟨g2, a, none⟩))).put (some 28) (hdr N (rbw a))).put (some 29) (.int .i64 ((b : Nat) : Int))).put (some 30) (.pointer (some ⟨B, 1, none⟩))).put (some 31) (.slice (some ⟨g2, 0, none⟩) N z2)).put (some 32) (.int .i64 ((a : Nat) : Int))).put (some 33) (.pointer (some ⟨g2, a, none⟩))).put (some 34) (hdr N (rbw a))).put (some 35) (.int .i64 ((b : Nat) : Int))).put (some 36) (.pointer (some ⟨rbw a, b, none⟩))).put (some 37) (.bool true)).put (some 38) (.bool true)) (.const v) = v := fun _ => rfl
              have ef : ∀ f, Act.eval (((((((((((((((a0.put (some 24) (.pointer (some ⟨B, 1, none⟩))).put (some 25) (.slice (some ⟨g2, 0, none⟩) N z2)).put (some 26) (.int .i64 ((a : Nat) : Int))).put (some 27) (.pointer (some ⟨g2, a, none⟩))).put (some 28) (hdr N (rbw a))).put (some 29) (.int .i64 ((b : Nat) : Int))).put (some 30) (.pointer (some ⟨B, 1, none⟩))).put (some 31) (.slice (some ⟨g2, 0, none⟩) N z2)).put (some 32) (.int .i64 ((a : Nat) : Int))).put (some 33) (.pointer (some ⟨g2, a, none⟩))).put (some 34) (hdr N (rbw a))).put (some 35) (.int .i64 ((b : Nat) : Int))).put (some 36) (.pointer (some ⟨rbw a, b, none⟩))).put (some 37) (.bool true)).put (some 38) (.bool true)) (.func f) = .func (.func f) #[] #[] := fun _ => rfl
              generalize Act.eval (((((((((((((((a0.put (some 24) (.pointer (some ⟨B, 1, none⟩))).put (some 25) (.slice (some ⟨g2, 0, none⟩) N z2)).put (some 26) (.int .i64 ((a : Nat) : Int))).put (some 27) (.pointer (some ⟨g2, a, none⟩))).put (some 28) (hdr N (rbw a))).put (some 29) (.int .i64 ((b : Nat) : Int))).put (some 30) (.pointer (some ⟨B, 1, none⟩))).put (some 31) (.slice (some ⟨g2, 0, none⟩) N z2)).put (some 32) (.int .i64 ((a : Nat) : Int))).put (some 33) (.pointer (some ⟨g2, a, none⟩))).put (some 34) (hdr N (rbw a))).put (some 35) (.int .i64 ((b : Nat) : Int))).put (some 36) (.pointer (some ⟨rbw a, b, none⟩))).put (some 37) (.bool true)).put (some 38) (.bool true)) = ρ at *
              simp only [List.getElem_toArray, List.getElem_cons_zero, List.getElem_cons_succ]
              obtain ⟨F9, hA9⟩ := hSw
              have k0 := hA9.snd.cell (j := 0) rfl
              have k1 := hA9.snd.cell (j := 1) rfl
              go_simp
            refine anyS_take (i := 16) (d := some 40) (v := .int .i64 ((a : Nat) : Int)) hS rfl rfl (by kernel_rfl) (by kernel_rfl) (by kernel_rfl) (fun _ _ _ h => h) (wanted_guard (j := 14) (d := 38) (want := true) rfl rfl (by rw [tmp_put_ne _ _ _ _ (by decide), tmp_put_same _ _ _ (by (repeat rw [Act.size_put]); omega)])) ?_ ?_
            · intro w9 hSw
              have e6 : Act.eval ((((((((((((((((a0.put (some 24) (.pointer (some ⟨B, 1, none⟩))).put (some 25) (.slice (some ⟨g2, 0, none⟩) N z2)).put (some 26) (.int .i64 ((a : Nat) : Int))).put (some 27) (.pointer (some ⟨g2, a, none⟩))).put (some 28) (hdr N (rbw a))).put (some 29) (.int .i64 ((b : Nat) : Int))).put (some 30) (.pointer (some ⟨B, 1, none⟩))).put (some 31) (.slice (some ⟨g2, 0, none⟩) N z2)).put (some 32) (.int .i64 ((a : Nat) : Int))).put (some 33) (.pointer (some ⟨g2, a, none⟩))).put (some 34) (hdr N (rbw a))).put (some 35) (.int .i64 ((b : Nat) : Int))).put (some 36) (.pointer (some ⟨rbw a, b, none⟩))).put (some 37) (.bool true)).put (some 38) (.bool true)).put (some 39) (.agg #[.int .i64 ((m : Nat) : Int), .slice x1 y1 z1])) (.tmp 6) = .int .i64 ((a : Nat) : Int) := by rw [Act.eval_put_ne _ _ _ _ (by decide), Act.eval_put_ne _ _ _ _ (by decide), Act.eval_put_ne _ _ _ _ (by decide), Act.eval_put_ne _ _ _ _ (by decide), Act.eval_put_ne _ _ _ _ (by decide), Act.eval_put_ne _ _ _ _ (by decide), Act.eval_put_ne _ _ _ _ (by decide), Act.eval_put_ne _ _ _ _ (by decide), Act.eval_put_ne _ _ _ _ (by decide), Act.eval_put_ne _ _ _ _ (by decide), Act.eval_put_ne _ _ _ _ (by decide), Act.eval_put_ne _ _ _ _ (by decide), Act.eval_put_ne _ _ _ _ (by decide), Act.eval_put_ne _ _ _ _ (by decide), Act.eval_put_ne _ _ _ _ (by decide), Act.eval_put_ne _ _ _ _ (by decide), b6]
              have ec : ∀ v, Act.eval ((((((((((((((((a0.put (some 24) (.pointer (some ⟨B, 1, none⟩))).put (some 25) (.slice (some ⟨g2, 0, none⟩) N z2)).put (some 26) (.int .i64 ((a : Nat) : Int))).put (some 27) (.pointer (some ⟨g2, a, none⟩))).put (some 28) (hdr N (rbw a))).put (some 29) (.int .i64 ((b : Nat) : Int))).put (some 30) (.pointer (some ⟨B, 1, none⟩))).put (some 31) (.slice (some ⟨g2, 0, none⟩) N z2)).put (some 32) (.int .i64 ((a : Nat) : Int))).put (some 33) (.pointer (some ⟨g2, a, none⟩))).put (some 34) (hdr N (rbw a))).put (some 35) (.int .i64 ((b : Nat) : Int))).put (some 36) (.pointer (some ⟨rbw a, b, none⟩))).put (some 37) (.bool true)).put (some 38) (.bool true)).put (some 39) (.agg #[.int .i64 ((m : Nat) : Int), .slice x1 y1 z1])) (.const v) = v := fun _ => rfl
              have ef : ∀ f, Act.eval ((((((((((((((((a0.put (some 24) (.pointer (some ⟨B, 1, none⟩))).put (some 25) (.slice (some ⟨g2, 0, none⟩) N z2)).put (some 26) (.int .i64 ((a : Nat) : Int))).put (some 27) (.pointer (some ⟨g2, a, none⟩))).put (some 28) (hdr N (rbw a))).put (some 29) (.int .i64 ((b : Nat) : Int))).put (some 30) (.pointer (some ⟨B, 1, none⟩))).put (some 31) (.slice (some ⟨g2, 0, none⟩) N z2)).put (some 32) (.int .i64 ((a : Nat) : Int))).put (some 33) (.pointer (some ⟨g2, a, none⟩))).put (some 34) (hdr N (rbw a))).put (some 35) (.int .i64 ((b : Nat) : Int))).put (some 36) (.pointer (some ⟨rbw a, b, none⟩))).put (some 37) (.bool true)).put (some 38) (.bool true)).put (some 39) (.agg #[.int .i64 ((m : Nat) : Int), .slice x1 y1 z1])) (.func f) = .func (.func f) #[] #[] := fun _ => rfl
              generalize Act.eval ((((((((((((((((a0.put (some 24) (.pointer (some ⟨B, 1, none⟩))).put (some 25) (.slice (some ⟨g2, 0, none⟩) N z2)).put (some 26) (.int .i64 ((a : Nat) : Int))).put (some 27) (.pointer (some ⟨g2, a, none⟩))).put (some 28) (hdr N (rbw a))).put (some 29) (.int .i64 ((b : Nat) : Int))).put (some 30) (.pointer (some ⟨B, 1, none⟩))).put (some 31) (.slice (some ⟨g2, 0, none⟩) N z2)).put (some 32) (.int .i64 ((a : Nat) : Int))).put (some 33) (.pointer (some ⟨g2, a, none⟩))).put (some 34) (hdr N (rbw a))).put (some 35) (.int .i64 ((b : Nat) : Int))).put (some 36) (.pointer (some ⟨rbw a, b, none⟩))).put (some 37) (.bool true)).put (some 38) (.bool true)).put (some 39) (.agg #[.int .i64 ((m : Nat) : Int), .slice x1 y1 z1])) = ρ at *
              simp only [List.getElem_toArray, List.getElem_cons_zero, List.getElem_cons_succ]
              clear hSw
              go_simp
            refine anyS_take (i := 17) (d := some 41) (v := .int .i64 ((b : Nat) : Int)) hS rfl rfl (by kernel_rfl) (by kernel_rfl) (by kernel_rfl) (fun _ _ _ h => h) (wanted_guard (j := 14) (d := 38) (want := true) rfl rfl (by rw [tmp_put_ne _ _ _ _ (by decide), tmp_put_ne _ _ _ _ (by decide), tmp_put_same _ _ _ (by (repeat rw [Act.size_put]); omega)])) ?_ ?_
            · intro w9 hSw
              have e7 : Act.eval (((((((((((((((((a0.put (some 24) (.pointer (some ⟨B, 1, none⟩))).put (some 25) (.slice (some ⟨g2, 0, none⟩) N z2)).put (some 26) (.int .i64 ((a : Nat) : Int))).put (some 27) (.pointer (some ⟨g2, a, none⟩))).put (some 28) (hdr N (rbw a))).put (some 29) (.int .i64 ((b : Nat) : Int))).put (some 30) (.pointer (some ⟨B, 1, none⟩))).put (some 31) (.slice (some ⟨g2, 0, none⟩) N z2)).put (some 32) (.int .i64 ((a : Nat) : Int))).put (some 33) (.pointer (some ⟨g2, a, none⟩))).put (some 34) (hdr N (rbw a))).put (some 35) (.int .i64 ((b : Nat) : Int))).put (some 36) (.pointer (some ⟨rbw a, b, none⟩))).put (some 37) (.bool true)).put (some 38) (.bool true)).put (some 39) (.agg #[.int .i64 ((m : Nat) : Int), .slice x1 y1 z1])).put (some 40) (.int .i64 ((a : Nat) : Int))) (.tmp 7) = .int .i64 ((b : Nat) : Int) := by rw [Act.eval_put_ne _ _ _ _ (by decide), Act.eval_put_ne _ _ _ _ (by decide), Act.eval_put_ne _ _ _ _ (by decide), Act.eval_put_ne _ _ _ _ (by decide), Act.eval_put_ne _ _ _ _ (by decide), Act.eval_put_ne _ _ _ _ (by decide), Act.eval_put_ne _ _ _ _ (by decide), Act.eval_put_ne _ _ _ _ (by decide), Act.eval_put_ne _ _ _ _ (by decide), Act.eval_put_ne _ _ _ _ (by decide), Act.eval_put_ne _ _ _ _ (by decide), Act.eval_put_ne _ _ _ _ (by decide), Act.eval_put_ne _ _ _ _ (by decide), Act.eval_put_ne _ _ _ _ (by decide), Act.eval_put_ne _ _ _ _ (by decide), Act.eval_put_ne _ _ _ _ (by decide), Act.eval_put_ne _ _ _ _ (by decide), b7]
              have ec : ∀ v, Act.eval (((((((((((((((((a0.put (some 24) (.pointer (some ⟨B, 1, none⟩))).put (some 25) (.slice (some ⟨g2, 0, none⟩) N z2)).put (some 26) (.int .i64 ((a : Nat) : Int))).put (some 27) (.pointer (some ⟨g2, a, none⟩))).put (some 28) (hdr N (rbw a))).put (some 29) (.int .i64 ((b : Nat) : Int))).put (some 30) (.pointer (some ⟨B, 1, none⟩))).put (some 31) (.slice (some ⟨g2, 0, none⟩) N z2)).put (some 32) (.int .i64 ((a : Nat) : Int))).put (some 33) (.pointer (some ⟨g2, a, none⟩))).put (some 34) (hdr N (rbw a))).put (some 35) (.int .i64 ((b : Nat) : Int))).put (some 36) (.pointer (some ⟨rbw a, b, none⟩))).put (some 37) (.bool true)).put (some 38) (.bool true)).put (some 39) (.agg #[.int .i64 ((m : Nat) : Int), .slice x1 y1 z1])).put (some 40) (.int .i64 ((a : Nat) : Int))) (.const v) = v := fun _ => rfl
              have ef : ∀ f, Act.eval (((((((((((((((((a0.put (some 24) (.pointer (some ⟨B, 1, none⟩))).put (some 25) (.slice (some ⟨g2, 0, none⟩) N z2)).put (some 26) (.int .i64 ((a : Nat) : Int))).put (some 27) (.pointer (some ⟨g2, a, none⟩))).put (some 28) (hdr N (rbw a))).put (some 29) (.int .i64 ((b : Nat) : Int))).put (some 30) (.pointer (some ⟨B, 1, none⟩))).put (some 31) (.slice (some ⟨g2, 0, none⟩) N z2)).put (some 32) (.int .i64 ((a : Nat) : Int))).put (some 33) (.pointer (some ⟨g2, a, none⟩))).put (some 34) (hdr N (rbw a))).put (some 35) (.int .i64 ((b : Nat) : Int))).put (some 36) (.pointer (some ⟨rbw a, b, none⟩))).put (some 37) (.bool true)).put (some 38) (.bool true)).put (some 39) (.agg #[.int .i64 ((m : Nat) : Int), .slice x1 y1 z1])).put (some 40) (.int .i64 ((a : Nat) : Int))) (.func f) = .func (.func f) #[] #[] := fun _ => rfl
              generalize Act.eval (((((((((((((((((a0.put (some 24) (.pointer (some ⟨B, 1, none⟩))).put (some 25) (.slice (some ⟨g2, 0, none⟩) N z2)).put (some 26) (.int .i64 ((a : Nat) : Int))).put (some 27) (.pointer (some ⟨g2, a, none⟩))).put (some 28) (hdr N (rbw a))).put (some 29) (.int .i64 ((b : Nat) : Int))).put (some 30) (.pointer (some ⟨B, 1, none⟩))).put (some 31) (.slice (some ⟨g2, 0, none⟩) N z2)).put (some 32) (.int .i64 ((a : Nat) : Int))).put (some 33) (.pointer (some ⟨g2, a, none⟩))).put (some 34) (hdr N (rbw a))).put (some 35) (.int .i64 ((b : Nat) : Int))).put (some 36) (.pointer (some ⟨rbw a, b, none⟩))).put (some 37) (.bool true)).put (some 38) (.bool true)).put (some 39) (.agg #[.int .i64 ((m : Nat) : Int), .slice x1 y1 z1])).put (some 40) (.int .i64 ((a : Nat) : Int))) = ρ at *
              simp only [List.getElem_toArray, List.getElem_cons_zero, List.getElem_cons_succ]
              clear hSw
              go_simp
            refine wpAnyH_ready (rs := [18]) (by kernel_rfl) (by simp) ?_
            refine anyS_enter (i := 18) (d := some 42) (f := 87) (args := #[.agg #[.int .i64 ((m : Nat) : Int), .slice x1 y1 z1], .int .i64 ((a : Nat) : Int), .int .i64 ((b : Nat) : Int)]) (w' := wr.drew) rfl rfl (wanted_guard (j := 14) (d := 38) (want := true) rfl rfl (by rw [tmp_put_ne _ _ _ _ (by decide), tmp_put_ne _ _ _ _ (by decide), tmp_put_ne _ _ _ _ (by decide), tmp_put_same _ _ _ (by (repeat rw [Act.size_put]); omega)])) ?_ ?_ AllReadyH.nil
            · skip
              have e39 : Act.eval ((((((((((((((((((a0.put (some 24) (.pointer (some ⟨B, 1, none⟩))).put (some 25) (.slice (some ⟨g2, 0, none⟩) N z2)).put (some 26) (.int .i64 ((a : Nat) : Int))).put (some 27) (.pointer (some ⟨g2, a, none⟩))).put (some 28) (hdr N (rbw a))).put (some 29) (.int .i64 ((b : Nat) : Int))).put (some 30) (.pointer (some ⟨B, 1, none⟩))).put (some 31) (.slice (some ⟨g2, 0, none⟩) N z2)).put (some 32) (.int .i64 ((a : Nat) : Int))).put (some 33) (.pointer (some ⟨g2, a, none⟩))).put (some 34) (hdr N (rbw a))).put (some 35) (.int .i64 ((b : Nat) : Int))).put (some 36) (.pointer (some ⟨rbw a, b, none⟩))).put (some 37) (.bool true)).put (some 38) (.bool true)).put (some 39) (.agg #[.int .i64 ((m : Nat) : Int), .slice x1 y1 z1])).put (some 40) (.int .i64 ((a : Nat) : Int))).put (some 41) (.int .i64 ((b : Nat) : Int))) (.tmp 39) = .agg #[.int .i64 ((m : Nat) : Int), .slice x1 y1 z1] := by rw [Act.eval_put_ne _ _ _ _ (by decide), Act.eval_put_ne _ _ _ _ (by decide), Act.eval_put_same _ _ _ (by (repeat rw [Act.size_put]); omega)]
              have e40 : Act.eval ((((((((((((((((((a0.put (some 24) (.pointer (some ⟨B, 1, none⟩))).put (some 25) (.slice (some ⟨g2, 0, none⟩) N z2)).put (some 26) (.int .i64 ((a : Nat) : Int))).put (some 27) (.pointer (some ⟨g2, a, none⟩))).put (some 28) (hdr N (rbw a))).put (some 29) (.int .i64 ((b : Nat) : Int))).put (some 30) (.pointer (some ⟨B, 1, none⟩))).put (some 31) (.slice (some ⟨g2, 0, none⟩) N z2)).put (some 32) (.int .i64 ((a : Nat) : Int))).put (some 33) (.pointer (some ⟨g2, a, none⟩))).put (some 34) (hdr N (rbw a))).put (some 35) (.int .i64 ((b : Nat) : Int))).put (some 36) (.pointer (some ⟨rbw a, b, none⟩))).put (some 37) (.bool true)).put (some 38) (.bool true)).put (some 39) (.agg #[.int .i64 ((m : Nat) : Int), .slice x1 y1 z1])).put (some 40) (.int .i64 ((a : Nat) : Int))).put (some 41) (.int .i64 ((b : Nat) : Int))) (.tmp 40) = .int .i64 ((a : Nat) : Int) := by rw [Act.eval_put_ne _ _ _ _ (by decide), Act.eval_put_same _ _ _ (by (repeat rw [Act.size_put]); omega)]
              have e41 : Act.eval ((((((((((((((((((a0.put (some 24) (.pointer (some ⟨B, 1, none⟩))).put (some 25) (.slice (some ⟨g2, 0, none⟩) N z2)).put (some 26) (.int .i64 ((a : Nat) : Int))).put (some 27) (.pointer (some ⟨g2, a, none⟩))).put (some 28) (hdr N (rbw a))).put (some 29) (.int .i64 ((b : Nat) : Int))).put (some 30) (.pointer (some ⟨B, 1, none⟩))).put (some 31) (.slice (some ⟨g2, 0, none⟩) N z2)).put (some 32) (.int .i64 ((a : Nat) : Int))).put (some 33) (.pointer (some ⟨g2, a, none⟩))).put (some 34) (hdr N (rbw a))).put (some 35) (.int .i64 ((b : Nat) : Int))).put (some 36) (.pointer (some ⟨rbw a, b, none⟩))).put (some 37) (.bool true)).put (some 38) (.bool true)).put (some 39) (.agg #[.int .i64 ((m : Nat) : Int), .slice x1 y1 z1])).put (some 40) (.int .i64 ((a : Nat) : Int))).put (some 41) (.int .i64 ((b : Nat) : Int))) (.tmp 41) = .int .i64 ((b : Nat) : Int) := by rw [Act.eval_put_same _ _ _ (by (repeat rw [Act.size_put]); omega)]
              have ec : ∀ v, Act.eval ((((((((((((((((((a0.put (some 24) (.pointer (some ⟨B, 1, none⟩))).put (some 25) (.slice (some ⟨g2, 0, none⟩) N z2)).put (some 26) (.int .i64 ((a : Nat) : Int))).put (some 27) (.pointer (some ⟨g2, a, none⟩))).put (some 28) (hdr N (rbw a))).put (some 29) (.int .i64 ((b : Nat) : Int))).put (some 30) (.pointer (some ⟨B, 1, none⟩))).put (some 31) (.slice (some ⟨g2, 0, none⟩) N z2)).put (some 32) (.int .i64 ((a : Nat) : Int))).put (some 33) (.pointer (some ⟨g2, a, none⟩))).put (some 34) (hdr N (rbw a))).put (some 35) (.int .i64 ((b : Nat) : Int))).put (some 36) (.pointer (some ⟨rbw a, b, none⟩))).put (some 37) (.bool true)).put (some 38) (.bool true)).put (some 39) (.agg #[.int .i64 ((m : Nat) : Int), .slice x1 y1 z1])).put (some 40) (.int .i64 ((a : Nat) : Int))).put (some 41) (.int .i64 ((b : Nat) : Int))) (.const v) = v := fun _ => rfl
              have ef : ∀ f, Act.eval ((((((((((((((((((a0.put (some 24) (.pointer (some ⟨B, 1, none⟩))).put (some 25) (.slice (some ⟨g2, 0, none⟩) N z2)).put (some 26) (.int .i64 ((a : Nat) : Int))).put (some 27) (.pointer (some ⟨g2, a, none⟩))).put (some 28) (hdr N (rbw a))).put (some 29) (.int .i64 ((b : Nat) : Int))).put (some 30) (.pointer (some ⟨B, 1, none⟩))).put (some 31) (.slice (some ⟨g2, 0, none⟩) N z2)).put (some 32) (.int .i64 ((a : Nat) : Int))).put (some 33) (.pointer (some ⟨g2, a, none⟩))).put (some 34) (hdr N (rbw a))).put (some 35) (.int .i64 ((b : Nat) : Int))).put (some 36) (.pointer (some ⟨rbw a, b, none⟩))).put (some 37) (.bool true)).put (some 38) (.bool true)).put (some 39) (.agg #[.int .i64 ((m : Nat) : Int), .slice x1 y1 z1])).put (some 40) (.int .i64 ((a : Nat) : Int))).put (some 41) (.int .i64 ((b : Nat) : Int))) (.func f) = .func (.func f) #[] #[] := fun _ => rfl
              generalize Act.eval ((((((((((((((((((a0.put (some 24) (.pointer (some ⟨B, 1, none⟩))).put (some 25) (.slice (some ⟨g2, 0, none⟩) N z2)).put (some 26) (.int .i64 ((a : Nat) : Int))).put (some 27) (.pointer (some ⟨g2, a, none⟩))).put (some 28) (hdr N (rbw a))).put (some 29) (.int .i64 ((b : Nat) : Int))).put (some 30) (.pointer (some ⟨B, 1, none⟩))).put (some 31) (.slice (some ⟨g2, 0, none⟩) N z2)).put (some 32) (.int .i64 ((a : Nat) : Int))).put (some 33) (.pointer (some ⟨g2, a, none⟩))).put (some 34) (hdr N (rbw a))).put (some 35) (.int .i64 ((b : Nat) : Int))).put (some 36) (.pointer (some ⟨rbw a, b, none⟩))).put (some 37) (.bool true)).put (some 38) (.bool true)).put (some 39) (.agg #[.int .i64 ((m : Nat) : Int), .slice x1 y1 z1])).put (some 40) (.int .i64 ((a : Nat) : Int))).put (some 41) (.int .i64 ((b : Nat) : Int))) = ρ at *
              simp only [List.getElem_toArray, List.getElem_cons_zero, List.getElem_cons_succ]
              go_simp
            refine (refHas_calls lo2 m x1 y1 z1 rb1 G _ _ _ (h1.below hA.drew.below)).mono ?_
            rintro e w5 ⟨rfl, hB5⟩
            have hA5 := hA.drew.step hB5
            refine ⟨_, rfl, ⟨_, hA5⟩, ?_⟩
            rw [hasF_nat]
            clear hS s0 s1 fz d1
            have hS : ∃ F', MkAt w w5 3 [(0, #[.int .i64 ((n : Nat) : Int), .slice x y z]), (1, #[.int .i64 ((m : Nat) : Int), .slice x1 y1 z1]), (2, #[.int .i64 0, .slice none 0 0])] B N (.slice (some ⟨g2, 0, none⟩) N z2) rbw F' := ⟨_, hA5⟩
            have hA6 := hA5.put (p := a) (q := b) haN hbN (!extF m G a b)
            obtain ⟨_, _, e3, _, _, _, _, s2, fz, _⟩ := hA5.ref.at_ (p := a) (q := b) haN hbN
            clear e3
            refine anyS_take (i := 19) (d := some 43) (v := .bool (!extF m G a b)) hS rfl rfl (by kernel_rfl) (by kernel_rfl) (by kernel_rfl) (fun _ _ _ h => h) (wanted_guard (j := 14) (d := 38) (want := true) rfl rfl (by rw [tmp_put_ne _ _ _ _ (by decide), tmp_put_ne _ _ _ _ (by decide), tmp_put_ne _ _ _ _ (by decide), tmp_put_ne _ _ _ _ (by decide), tmp_put_same _ _ _ (by (repeat rw [Act.size_put]); omega)])) ?_ ?_
            · intro w9 hSw
              have e42 : Act.eval (((((((((((((((((((a0.put (some 24) (.pointer (some ⟨B, 1, none⟩))).put (some 25) (.slice (some ⟨g2, 0, none⟩) N z2)).put (some 26) (.int .i64 ((a : Nat) : Int))).put (some 27) (.pointer (some ⟨g2, a, none⟩))).put (some 28) (hdr N (rbw a))).put (some 29) (.int .i64 ((b : Nat) : Int))).put (some 30) (.pointer (some ⟨B, 1, none⟩))).put (some 31) (.slice (some ⟨g2, 0, none⟩) N z2)).put (some 32) (.int .i64 ((a : Nat) : Int))).put (some 33) (.pointer (some ⟨g2, a, none⟩))).put (some 34) (hdr N (rbw a))).put (some 35) (.int .i64 ((b : Nat) : Int))).put (some 36) (.pointer (some ⟨rbw a, b, none⟩))).put (some 37) (.bool true)).put (some 38) (.bool true)).put (some 39) (.agg #[.int .i64 ((m : Nat) : Int), .slice x1 y1 z1])).put (some 40) (.int .i64 ((a : Nat) : Int))).put (some 41) (.int .i64 ((b : Nat) : Int))).put (some 42) (.bool (extF m G a b))) (.tmp 42) = .bool (extF m G a b) := by rw [Act.eval_put_same _ _ _ (by (repeat rw [Act.size_put]); omega)]
              have ec : ∀ v, Act.eval (((((((((((((((((((a0.put (some 24) (.pointer (some ⟨B, 1, none⟩))).put (some 25) (.slice (some ⟨g2, 0, none⟩) N z2)).put (some 26) (.int .i64 ((a : Nat) : Int))).put (some 27) (.pointer (some ⟨g2, a, none⟩))).put (some 28) (hdr N (rbw a))).put (some 29) (.int .i64 ((b : Nat) : Int))).put (some 30) (.pointer (some ⟨B, 1, none⟩))).put (some 31) (.slice (some ⟨g2, 0, none⟩) N z2)).put (some 32) (.int .i64 ((a : Nat) : Int))).put (some 33) (.pointer (some ⟨g2, a, none⟩))).put (some 34) (hdr N (rbw a))).put (some 35) (.int .i64 ((b : Nat) : Int))).put (some 36) (.pointer (some ⟨rbw a, b, none⟩))).put (some 37) (.bool true)).put (some 38) (.bool true)).put (some 39) (.agg #[.int .i64 ((m : Nat) : Int), .slice x1 y1 z1])).put (some 40) (.int .i64 ((a : Nat) : Int))).put (some 41) (.int .i64 ((b : Nat) : Int))).put (some 42) (.bool (extF m G a b))) (.const v) = v := fun _ => rfl
              have ef : ∀ f, Act.eval (((((((((((((((((((a0.put (some 24) (.pointer (some ⟨B, 1, none⟩))).put (some 25) (.slice (some ⟨g2, 0, none⟩) N z2)).put (some 26) (.int .i64 ((a : Nat) : Int))).put (some 27) (.pointer (some ⟨g2, a, none⟩))).put (some 28) (hdr N (rbw a))).put (some 29) (.int .i64 ((b : Nat) : Int))).put (some 30) (.pointer (some ⟨B, 1, none⟩))).put (some 31) (.slice (some ⟨g2, 0, none⟩) N z2)).put (some 32) (.int .i64 ((a : Nat) : Int))).put (some 33) (.pointer (some ⟨g2, a, none⟩))).put (some 34) (hdr N (rbw a))).put (some 35) (.int .i64 ((b : Nat) : Int))).put (some 36) (.pointer (some ⟨rbw a, b, none⟩))).put (some 37) (.bool true)).put (some 38) (.bool true)).put (some 39) (.agg #[.int .i64 ((m : Nat) : Int), .slice x1 y1 z1])).put (some 40) (.int .i64 ((a : Nat) : Int))).put (some 41) (.int .i64 ((b : Nat) : Int))).put (some 42) (.bool (extF m G a b))) (.func f) = .func (.func f) #[] #[] := fun _ => rfl
              generalize Act.eval (((((((((((((((((((a0.put (some 24) (.pointer (some ⟨B, 1, none⟩))).put (some 25) (.slice (some ⟨g2, 0, none⟩) N z2)).put (some 26) (.int .i64 ((a : Nat) : Int))).put (some 27) (.pointer (some ⟨g2, a, none⟩))).put (some 28) (hdr N (rbw a))).put (some 29) (.int .i64 ((b : Nat) : Int))).put (some 30) (.pointer (some ⟨B, 1, none⟩))).put (some 31) (.slice (some ⟨g2, 0, none⟩) N z2)).put (some 32) (.int .i64 ((a : Nat) : Int))).put (some 33) (.pointer (some ⟨g2, a, none⟩))).put (some 34) (hdr N (rbw a))).put (some 35) (.int .i64 ((b : Nat) : Int))).put (some 36) (.pointer (some ⟨rbw a, b, none⟩))).put (some 37) (.bool true)).put (some 38) (.bool true)).put (some 39) (.agg #[.int .i64 ((m : Nat) : Int), .slice x1 y1 z1])).put (some 40) (.int .i64 ((a : Nat) : Int))).put (some 41) (.int .i64 ((b : Nat) : Int))).put (some 42) (.bool (extF m G a b))) = ρ at *
              simp only [List.getElem_toArray, List.getElem_cons_zero, List.getElem_cons_succ]
              clear hSw
              go_simp
            refine anyS_take (i := 20) (d := some 44) (v := .bool (!extF m G a b)) hS rfl rfl (by kernel_rfl) (by kernel_rfl) (by kernel_rfl) (fun _ _ _ h => h) (by rfl) ?_ ?_
            · intro w9 hSw
              have e38 : Act.eval ((((((((((((((((((((a0.put (some 24) (.pointer (some ⟨B, 1, none⟩))).put (some 25) (.slice (some ⟨g2, 0, none⟩) N z2)).put (some 26) (.int .i64 ((a : Nat) : Int))).put (some 27) (.pointer (some ⟨g2, a, none⟩))).put (some 28) (hdr N (rbw a))).put (some 29) (.int .i64 ((b : Nat) : Int))).put (some 30) (.pointer (some ⟨B, 1, none⟩))).put (some 31) (.slice (some ⟨g2, 0, none⟩) N z2)).put (some 32) (.int .i64 ((a : Nat) : Int))).put (some 33) (.pointer (some ⟨g2, a, none⟩))).put (some 34) (hdr N (rbw a))).put (some 35) (.int .i64 ((b : Nat) : Int))).put (some 36) (.pointer (some ⟨rbw a, b, none⟩))).put (some 37) (.bool true)).put (some 38) (.bool true)).put (some 39) (.agg #[.int .i64 ((m : Nat) : Int), .slice x1 y1 z1])).put (some 40) (.int .i64 ((a : Nat) : Int))).put (some 41) (.int .i64 ((b : Nat) : Int))).put (some 42) (.bool (extF m G a b))).put (some 43) (.bool (!extF m G a b))) (.tmp 38) = .bool true := by rw [Act.eval_put_ne _ _ _ _ (by decide), Act.eval_put_ne _ _ _ _ (by decide), Act.eval_put_ne _ _ _ _ (by decide), Act.eval_put_ne _ _ _ _ (by decide), Act.eval_put_ne _ _ _ _ (by decide), Act.eval_put_same _ _ _ (by (repeat rw [Act.size_put]); omega)]
              have e43 : Act.eval ((((((((((((((((((((a0.put (some 24) (.pointer (some ⟨B, 1, none⟩))).put (some 25) (.slice (some ⟨g2, 0, none⟩) N z2)).put (some 26) (.int .i64 ((a : Nat) : Int))).put (some 27) (.pointer (some ⟨g2, a, none⟩))).put (some 28) (hdr N (rbw a))).put (some 29) (.int .i64 ((b : Nat) : Int))).put (some 30) (.pointer (some ⟨B, 1, none⟩))).put (some 31) (.slice (some ⟨g2, 0, none⟩) N z2)).put (some 32) (.int .i64 ((a : Nat) : Int))).put (some 33) (.pointer (some ⟨g2, a, none⟩))).put (some 34) (hdr N (rbw a))).put (some 35) (.int .i64 ((b : Nat) : Int))).put (some 36) (.pointer (some ⟨rbw a, b, none⟩))).put (some 37) (.bool true)).put (some 38) (.bool true)).put (some 39) (.agg #[.int .i64 ((m : Nat) : Int), .slice x1 y1 z1])).put (some 40) (.int .i64 ((a : Nat) : Int))).put (some 41) (.int .i64 ((b : Nat) : Int))).put (some 42) (.bool (extF m G a b))).put (some 43) (.bool (!extF m G a b))) (.tmp 43) = .bool (!extF m G a b) := by rw [Act.eval_put_same _ _ _ (by (repeat rw [Act.size_put]); omega)]
              have ec : ∀ v, Act.eval ((((((((((((((((((((a0.put (some 24) (.pointer (some ⟨B, 1, none⟩))).put (some 25) (.slice (some ⟨g2, 0, none⟩) N z2)).put (some 26) (.int .i64 ((a : Nat) : Int))).put (some 27) (.pointer (some ⟨g2, a, none⟩))).put (some 28) (hdr N (rbw a))).put (some 29) (.int .i64 ((b : Nat) : Int))).put (some 30) (.pointer (some ⟨B, 1, none⟩))).put (some 31) (.slice (some ⟨g2, 0, none⟩) N z2)).put (some 32) (.int .i64 ((a : Nat) : Int))).put (some 33) (.pointer (some ⟨g2, a, none⟩))).put (some 34) (hdr N (rbw a))).put (some 35) (.int .i64 ((b : Nat) : Int))).put (some 36) (.pointer (some ⟨rbw a, b, none⟩))).put (some 37) (.bool true)).put (some 38) (.bool true)).put (some 39) (.agg #[.int .i64 ((m : Nat) : Int), .slice x1 y1 z1])).put (some 40) (.int .i64 ((a : Nat) : Int))).put (some 41) (.int .i64 ((b : Nat) : Int))).put (some 42) (.bool (extF m G a b))).put (some 43) (.bool (!extF m G a b))) (.const v) = v := fun _ => rfl
              have ef : ∀ f, Act.eval ((((((((((((((((((((a0.put (some 24) (.pointer (some ⟨B, 1, none⟩))).put (some 25) (.slice (some ⟨g2, 0, none⟩) N z2)).put (some 26) (.int .i64 ((a : Nat) : Int))).put (some 27) (.pointer (some ⟨g2, a, none⟩))).put (some 28) (hdr N (rbw a))).put (some 29) (.int .i64 ((b : Nat) : Int))).put (some 30) (.pointer (some ⟨B, 1, none⟩))).put (some 31) (.slice (some ⟨g2, 0, none⟩) N z2)).put (some 32) (.int .i64 ((a : Nat) : Int))).put (some 33) (.pointer (some ⟨g2, a, none⟩))).put (some 34) (hdr N (rbw a))).put (some 35) (.int .i64 ((b : Nat) : Int))).put (some 36) (.pointer (some ⟨rbw a, b, none⟩))).put (some 37) (.bool true)).put (some 38) (.bool true)).put (some 39) (.agg #[.int .i64 ((m : Nat) : Int), .slice x1 y1 z1])).put (some 40) (.int .i64 ((a : Nat) : Int))).put (some 41) (.int .i64 ((b : Nat) : Int))).put (some 42) (.bool (extF m G a b))).put (some 43) (.bool (!extF m G a b))) (.func f) = .func (.func f) #[] #[] := fun _ => rfl
              generalize Act.eval ((((((((((((((((((((a0.put (some 24) (.pointer (some ⟨B, 1, none⟩))).put (some 25) (.slice (some ⟨g2, 0, none⟩) N z2)).put (some 26) (.int .i64 ((a : Nat) : Int))).put (some 27) (.pointer (some ⟨g2, a, none⟩))).put (some 28) (hdr N (rbw a))).put (some 29) (.int .i64 ((b : Nat) : Int))).put (some 30) (.pointer (some ⟨B, 1, none⟩))).put (some 31) (.slice (some ⟨g2, 0, none⟩) N z2)).put (some 32) (.int .i64 ((a : Nat) : Int))).put (some 33) (.pointer (some ⟨g2, a, none⟩))).put (some 34) (hdr N (rbw a))).put (some 35) (.int .i64 ((b : Nat) : Int))).put (some 36) (.pointer (some ⟨rbw a, b, none⟩))).put (some 37) (.bool true)).put (some 38) (.bool true)).put (some 39) (.agg #[.int .i64 ((m : Nat) : Int), .slice x1 y1 z1])).put (some 40) (.int .i64 ((a : Nat) : Int))).put (some 41) (.int .i64 ((b : Nat) : Int))).put (some 42) (.bool (extF m G a b))).put (some 43) (.bool (!extF m G a b))) = ρ at *
              simp only [List.getElem_toArray, List.getElem_cons_zero, List.getElem_cons_succ]
              clear hSw
              go_simp
            refine anyS_take (i := 21) (d := some 45) (v := .pointer (some ⟨rbw a, b, none⟩)) hS rfl rfl (by kernel_rfl) (by kernel_rfl) (by kernel_rfl) (fun _ _ _ h => h) (by rfl) ?_ ?_
            · intro w9 hSw
              have e28 : Act.eval (((((((((((((((((((((a0.put (some 24) (.pointer (some ⟨B, 1, none⟩))).put (some 25) (.slice (some ⟨g2, 0, none⟩) N z2)).put (some 26) (.int .i64 ((a : Nat) : Int))).put (some 27) (.pointer (some ⟨g2, a, none⟩))).put (some 28) (hdr N (rbw a))).put (some 29) (.int .i64 ((b : Nat) : Int))).put (some 30) (.pointer (some ⟨B, 1, none⟩))).put (some 31) (.slice (some ⟨g2, 0, none⟩) N z2)).put (some 32) (.int .i64 ((a : Nat) : Int))).put (some 33) (.pointer (some ⟨g2, a, none⟩))).put (some 34) (hdr N (rbw a))).put (some 35) (.int .i64 ((b : Nat) : Int))).put (some 36) (.pointer (some ⟨rbw a, b, none⟩))).put (some 37) (.bool true)).put (some 38) (.bool true)).put (some 39) (.agg #[.int .i64 ((m : Nat) : Int), .slice x1 y1 z1])).put (some 40) (.int .i64 ((a : Nat) : Int))).put (some 41) (.int .i64 ((b : Nat) : Int))).put (some 42) (.bool (extF m G a b))).put (some 43) (.bool (!extF m G a b))).put (some 44) (.bool (!extF m G a b))) (.tmp 28) = hdr N (rbw a) := by rw [Act.eval_put_ne _ _ _ _ (by decide), Act.eval_put_ne _ _ _ _ (by decide), Act.eval_put_ne _ _ _ _ (by decide), Act.eval_put_ne _ _ _ _ (by decide), Act.eval_put_ne _ _ _ _ (by decide), Act.eval_put_ne _ _ _ _ (by decide), Act.eval_put_ne _ _ _ _ (by decide), Act.eval_put_ne _ _ _ _ (by decide), Act.eval_put_ne _ _ _ _ (by decide), Act.eval_put_ne _ _ _ _ (by decide), Act.eval_put_ne _ _ _ _ (by decide), Act.eval_put_ne _ _ _ _ (by decide), Act.eval_put_ne _ _ _ _ (by decide), Act.eval_put_ne _ _ _ _ (by decide), Act.eval_put_ne _ _ _ _ (by decide), Act.eval_put_ne _ _ _ _ (by decide), Act.eval_put_same _ _ _ (by (repeat rw [Act.size_put]); omega)]
              have e29 : Act.eval (((((((((((((((((((((a0.put (some 24) (.pointer (some ⟨B, 1, none⟩))).put (some 25) (.slice (some ⟨g2, 0, none⟩) N z2)).put (some 26) (.int .i64 ((a : Nat) : Int))).put (some 27) (.pointer (some ⟨g2, a, none⟩))).put (some 28) (hdr N (rbw a))).put (some 29) (.int .i64 ((b : Nat) : Int))).put (some 30) (.pointer (some ⟨B, 1, none⟩))).put (some 31) (.slice (some ⟨g2, 0, none⟩) N z2)).put (some 32) (.int .i64 ((a : Nat) : Int))).put (some 33) (.pointer (some ⟨g2, a, none⟩))).put (some 34) (hdr N (rbw a))).put (some 35) (.int .i64 ((b : Nat) : Int))).put (some 36) (.pointer (some ⟨rbw a, b, none⟩))).put (some 37) (.bool true)).put (some 38) (.bool true)).put (some 39) (.agg #[.int .i64 ((m : Nat) : Int), .slice x1 y1 z1])).put (some 40) (.int .i64 ((a : Nat) : Int))).put (some 41) (.int .i64 ((b : Nat) : Int))).put (some 42) (.bool (extF m G a b))).put (some 43) (.bool (!extF m G a b))).put (some 44) (.bool (!extF m G a b))) (.tmp 29) = .int .i64 ((b : Nat) : Int) := by rw [Act.eval_put_ne _ _ _ _ (by decide), Act.eval_put_ne _ _ _ _ (by decide), Act.eval_put_ne _ _ _ _ (by decide), Act.eval_put_ne _ _ _ _ (by decide), Act.eval_put_ne _ _ _ _ (by decide), Act.eval_put_ne _ _ _ _ (by decide), Act.eval_put_ne _ _ _ _ (by decide), Act.eval_put_ne _ _ _ _ (by decide), Act.eval_put_ne _ _ _ _ (by decide), Act.eval_put_ne _ _ _ _ (by decide), Act.eval_put_ne _ _ _ _ (by decide), Act.eval_put_ne _ _ _ _ (by decide), Act.eval_put_ne _ _ _ _ (by decide), Act.eval_put_ne _ _ _ _ (by decide), Act.eval_put_ne _ _ _ _ (by decide), Act.eval_put_same _ _ _ (by (repeat rw [Act.size_put]); omega)]
              have ec : ∀ v, Act.eval (((((((((((((((((((((a0.put (some 24) (.pointer (some ⟨B, 1, none⟩))).put (some 25) (.slice (some ⟨g2, 0, none⟩) N z2)).put (some 26) (.int .i64 ((a : Nat) : Int))).put (some 27) (.pointer (some ⟨g2, a, none⟩))).put (some 28) (hdr N (rbw a))).put (some 29) (.int .i64 ((b : Nat) : Int))).put (some 30) (.pointer (some ⟨B, 1, none⟩))).put (some 31) (.slice (some ⟨g2, 0, none⟩) N z2)).put (some 32) (.int .i64 ((a : Nat) : Int))).put (some 33) (.pointer (some ⟨g2, a, none⟩))).put (some 34) (hdr N (rbw a))).put (some 35) (.int .i64 ((b : Nat) : Int))).put (some 36) (.pointer (some ⟨rbw a, b, none⟩))).put (some 37) (.bool true)).put (some 38) (.bool true)).put (some 39) (.agg #[.int .i64 ((m : Nat) : Int), .slice x1 y1 z1])).put (some 40) (.int .i64 ((a : Nat) : Int))).put (some 41) (.int .i64 ((b : Nat) : Int))).put (some 42) (.bool (extF m G a b))).put (some 43) (.bool (!extF m G a b))).put (some 44) (.bool (!extF m G a b))) (.const v) = v := fun _ => rfl
              have ef : ∀ f, Act.eval (((((((((((((((((((((a0.put (some 24) (.pointer (some ⟨B, 1, none⟩))).put (some 25) (.slice (some ⟨g2, 0, none⟩) N z2)).put (some 26) (.int .i64 ((a : Nat) : Int))).put (some 27) (.pointer (some ⟨g2, a, none⟩))).put (some 28) (hdr N (rbw a))).put (some 29) (.int .i64 ((b : Nat) : Int))).put (some 30) (.pointer (some ⟨B, 1, none⟩))).put (some 31) (.slice (some ⟨g2, 0, none⟩) N z2)).put (some 32) (.int .i64 ((a : Nat) : Int))).put (some 33) (.pointer (some ⟨g2, a, none⟩))).put (some 34) (hdr N (rbw a))).put (some 35) (.int .i64 ((b : Nat) : Int))).put (some 36) (.pointer (some ⟨rbw a, b, none⟩))).put (some 37) (.bool true)).put (some 38) (.bool true)).put (some 39) (.agg #[.int .i64 ((m : Nat) : Int), .slice x1 y1 z1])).put (some 40) (.int .i64 ((a : Nat) : Int))).put (some 41) (.int .i64 ((b : Nat) : Int))).put (some 42) (.bool (extF m G a b))).put (some 43) (.bool (!extF m G a b))).put (some 44) (.bool (!extF m G a b))) (.func f) = .func (.func f) #[] #[] := fun _ => rfl
              generalize Act.eval (((((((((((((((((((((a0.put (some 24) (.pointer (some ⟨B, 1, none⟩))).put (some 25) (.slice (some ⟨g2, 0, none⟩) N z2)).put (some 26) (.int .i64 ((a : Nat) : Int))).put (some 27) (.pointer (some ⟨g2, a, none⟩))).put (some 28) (hdr N (rbw a))).put (some 29) (.int .i64 ((b : Nat) : Int))).put (some 30) (.pointer (some ⟨B, 1, none⟩))).put (some 31) (.slice (some ⟨g2, 0, none⟩) N z2)).put (some 32) (.int .i64 ((a : Nat) : Int))).put (some 33) (.pointer (some ⟨g2, a, none⟩))).put (some 34) (hdr N (rbw a))).put (some 35) (.int .i64 ((b : Nat) : Int))).put (some 36) (.pointer (some ⟨rbw a, b, none⟩))).put (some 37) (.bool true)).put (some 38) (.bool true)).put (some 39) (.agg #[.int .i64 ((m : Nat) : Int), .slice x1 y1 z1])).put (some 40) (.int .i64 ((a : Nat) : Int))).put (some 41) (.int .i64 ((b : Nat) : Int))).put (some 42) (.bool (extF m G a b))).put (some 43) (.bool (!extF m G a b))).put (some 44) (.bool (!extF m G a b))) = ρ at *
              simp only [List.getElem_toArray, List.getElem_cons_zero, List.getElem_cons_succ]
              clear hSw
              go_simp
            refine wpAnyH_ready (rs := [22]) (by kernel_rfl) (by simp) ?_
            refine anyS_skip (i := 22) (d := none) (w' := w5.setCell ⟨rbw a, b, none⟩ (.bool (!extF m G a b))) rfl rfl (by rfl) ?_ ⟨_, hA6⟩ ?_ AllReadyH.nil
            · skip
              have e44 : Act.eval ((((((((((((((((((((((a0.put (some 24) (.pointer (some ⟨B, 1, none⟩))).put (some 25) (.slice (some ⟨g2, 0, none⟩) N z2)).put (some 26) (.int .i64 ((a : Nat) : Int))).put (some 27) (.pointer (some ⟨g2, a, none⟩))).put (some 28) (hdr N (rbw a))).put (some 29) (.int .i64 ((b : Nat) : Int))).put (some 30) (.pointer (some ⟨B, 1, none⟩))).put (some 31) (.slice (some ⟨g2, 0, none⟩) N z2)).put (some 32) (.int .i64 ((a : Nat) : Int))).put (some 33) (.pointer (some ⟨g2, a, none⟩))).put (some 34) (hdr N (rbw a))).put (some 35) (.int .i64 ((b : Nat) : Int))).put (some 36) (.pointer (some ⟨rbw a, b, none⟩))).put (some 37) (.bool true)).put (some 38) (.bool true)).put (some 39) (.agg #[.int .i64 ((m : Nat) : Int), .slice x1 y1 z1])).put (some 40) (.int .i64 ((a : Nat) : Int))).put (some 41) (.int .i64 ((b : Nat) : Int))).put (some 42) (.bool (extF m G a b))).put (some 43) (.bool (!extF m G a b))).put (some 44) (.bool (!extF m G a b))).put (some 45) (.pointer (some ⟨rbw a, b, none⟩))) (.tmp 44) = .bool (!extF m G a b) := by rw [Act.eval_put_ne _ _ _ _ (by decide), Act.eval_put_same _ _ _ (by (repeat rw [Act.size_put]); omega)]
              have e45 : Act.eval ((((((((((((((((((((((a0.put (some 24) (.pointer (some ⟨B, 1, none⟩))).put (some 25) (.slice (some ⟨g2, 0, none⟩) N z2)).put (some 26) (.int .i64 ((a : Nat) : Int))).put (some 27) (.pointer (some ⟨g2, a, none⟩))).put (some 28) (hdr N (rbw a))).put (some 29) (.int .i64 ((b : Nat) : Int))).put (some 30) (.pointer (some ⟨B, 1, none⟩))).put (some 31) (.slice (some ⟨g2, 0, none⟩) N z2)).put (some 32) (.int .i64 ((a : Nat) : Int))).put (some 33) (.pointer (some ⟨g2, a, none⟩))).put (some 34) (hdr N (rbw a))).put (some 35) (.int .i64 ((b : Nat) : Int))).put (some 36) (.pointer (some ⟨rbw a, b, none⟩))).put (some 37) (.bool true)).put (some 38) (.bool true)).put (some 39) (.agg #[.int .i64 ((m : Nat) : Int), .slice x1 y1 z1])).put (some 40) (.int .i64 ((a : Nat) : Int))).put (some 41) (.int .i64 ((b : Nat) : Int))).put (some 42) (.bool (extF m G a b))).put (some 43) (.bool (!extF m G a b))).put (some 44) (.bool (!extF m G a b))).put (some 45) (.pointer (some ⟨rbw a, b, none⟩))) (.tmp 45) = .pointer (some ⟨rbw a, b, none⟩) := by rw [Act.eval_put_same _ _ _ (by (repeat rw [Act.size_put]); omega)]
              have ec : ∀ v, Act.eval ((((((((((((((((((((((a0.put (some 24) (.pointer (some ⟨B, 1, none⟩))).put (some 25) (.slice (some ⟨g2, 0, none⟩) N z2)).put (some 26) (.int .i64 ((a : Nat) : Int))).put (some 27) (.pointer (some ⟨g2, a, none⟩))).put (some 28) (hdr N (rbw a))).put (some 29) (.int .i64 ((b : Nat) : Int))).put (some 30) (.pointer (some ⟨B, 1, none⟩))).put (some 31) (.slice (some ⟨g2, 0, none⟩) N z2)).put (some 32) (.int .i64 ((a : Nat) : Int))).put (some 33) (.pointer (some ⟨g2, a, none⟩))).put (some 34) (hdr N (rbw a))).put (some 35) (.int .i64 ((b : Nat) : Int))).put (some 36) (.pointer (some ⟨rbw a, b, none⟩))).put (some 37) (.bool true)).put (some 38) (.bool true)).put (some 39) (.agg #[.int .i64 ((m : Nat) : Int), .slice x1 y1 z1])).put (some 40) (.int .i64 ((a : Nat) : Int))).put (some 41) (.int .i64 ((b : Nat) : Int))).put (some 42) (.bool (extF m G a b))).put (some 43) (.bool (!extF m G a b))).put (some 44) (.bool (!extF m G a b))).put (some 45) (.pointer (some ⟨rbw a, b, none⟩))) (.const v) = v := fun _ => rfl
              have ef : ∀ f, Act.eval ((((((((((((((((((((((a0.put (some 24) (.pointer (some ⟨B, 1, none⟩))).put (some 25) (.slice (some ⟨g2, 0, none⟩) N z2)).put (some 26) (.int .i64 ((a : Nat) : Int))).put (some 27) (.pointer (some ⟨g2, a, none⟩))).put (some 28) (hdr N (rbw a))).put (some 29) (.int .i64 ((b : Nat) : Int))).put (some 30) (.pointer (some ⟨B, 1, none⟩))).put (some 31) (.slice (some ⟨g2, 0, none⟩) N z2)).put (some 32) (.int .i64 ((a : Nat) : Int))).put (some 33) (.pointer (some ⟨g2, a, none⟩))).put (some 34) (hdr N (rbw a))).put (some 35) (.int .i64 ((b : Nat) : Int))).put (some 36) (.pointer (some ⟨rbw a, b, none⟩))).put (some 37) (.bool true)).put (some 38) (.bool true)).put (some 39) (.agg #[.int .i64 ((m : Nat) : Int), .slice x1 y1 z1])).put (some 40) (.int .i64 ((a : Nat) : Int))).put (some 41) (.int .i64 ((b : Nat) : Int))).put (some 42) (.bool (extF m G a b))).put (some 43) (.bool (!extF m G a b))).put (some 44) (.bool (!extF m G a b))).put (some 45) (.pointer (some ⟨rbw a, b, none⟩))) (.func f) = .func (.func f) #[] #[] := fun _ => rfl
              generalize Act.eval ((((((((((((((((((((((a0.put (some 24) (.pointer (some ⟨B, 1, none⟩))).put (some 25) (.slice (some ⟨g2, 0, none⟩) N z2)).put (some 26) (.int .i64 ((a : Nat) : Int))).put (some 27) (.pointer (some ⟨g2, a, none⟩))).put (some 28) (hdr N (rbw a))).put (some 29) (.int .i64 ((b : Nat) : Int))).put (some 30) (.pointer (some ⟨B, 1, none⟩))).put (some 31) (.slice (some ⟨g2, 0, none⟩) N z2)).put (some 32) (.int .i64 ((a : Nat) : Int))).put (some 33) (.pointer (some ⟨g2, a, none⟩))).put (some 34) (hdr N (rbw a))).put (some 35) (.int .i64 ((b : Nat) : Int))).put (some 36) (.pointer (some ⟨rbw a, b, none⟩))).put (some 37) (.bool true)).put (some 38) (.bool true)).put (some 39) (.agg #[.int .i64 ((m : Nat) : Int), .slice x1 y1 z1])).put (some 40) (.int .i64 ((a : Nat) : Int))).put (some 41) (.int .i64 ((b : Nat) : Int))).put (some 42) (.bool (extF m G a b))).put (some 43) (.bool (!extF m G a b))).put (some 44) (.bool (!extF m G a b))).put (some 45) (.pointer (some ⟨rbw a, b, none⟩))) = ρ at *
              simp only [List.getElem_toArray, List.getElem_cons_zero, List.getElem_cons_succ]
              go_simp
            refine wpAnyH_done (by kernel_rfl) ?_ _
            subst hA0
            simp only [Act.put, List.setIfInBounds_toArray, List.set_cons_zero, List.set_cons_succ]
            have hA7 := hA6.congr (G := fillF (fun p q => extF n F p q && !extF m G p q) (extF n F) N a (b + 1)) (fun p q _ _ => congrFun (congrFun (fillF_put2 (G := fun p q => extF n F p q && !extF m G p q) (by rw [hv, Bool.true_and])) p) q)
            clear hA6 hS s2 fz
            go_wp2_with fail
            refine ⟨⟨b + 1, by omega, by go_num, hA7⟩, by simp [intOf]; omega⟩
        · have e : N = b := by omega
          subst e
          rw [fillF_row] at hA
          go_wp2_with fail
          refine ⟨⟨a + 1, by omega, by go_num, hA⟩, by simp [intOf]; omega⟩
    · have e : N = a := by omega
      subst e
      have hA := hA.congr (G := fun p q => extF n F p q && !extF m G p q) (fun p q hp hq => by exact fillF_full hp hq)
      have b0 := hA.box.cell (j := 0) rfl
      have b1 := hA.box.cell (j := 1) rfl
      have hr := hA.trd
      have d0 := hr.cell (j := 0) rfl
      have d1 := hr.cell (j := 1) rfl
      have f0 := hr.frozen 0
      have f1 := hr.frozen 1
      go_wp2_with fail
      have hres := (hr.set 0 (.int .i64 ((N : Nat) : Int))).set 1 (.slice x2 y2 z2)
      simp only [List.setIfInBounds_toArray, List.set_cons_zero, List.set_cons_succ] at hres
      (try simp only [Exit.inBlock, Exit.then])
      refine bodyPost_ret (ret_ref rfl rfl hres) rfl ?_
      obtain ⟨hA1, hB1⟩ := hA.answer (r := 2) (by omega)
      first | exact ⟨_, rbw, rfl, hA1, hB1⟩ | exact ⟨_, rfl, ⟨rbw, hA1⟩, hB1⟩
end Go.Proofs.YtmmgdeoballhpaaDoor
/- Of RefPlus, what this seat can build. -/
namespace Go.Proofs.YtmmgdeoballhpaaDoor
open Go.RowKit Go.Shelf Sx

theorem ext_in {n p q : Nat} {F : Nat → Nat → Bool} (hp : p < n) (hq : q < n) : extF n F p q = F p q := by
  unfold extF
  simp [hp, hq]
def plusFn (F : Nat → Nat → Bool) : Nat → Nat → Nat → Bool
  | 0 => F
  | k + 1 => fun p q => plusFn F k p q || (plusFn F k p k && plusFn F k k q)
theorem plusFn_succ (F : Nat → Nat → Bool) (k p q : Nat) : plusFn F (k + 1) p q = (plusFn F k p q || (plusFn F k p k && plusFn F k k q)) := rfl
theorem plusFn_col (F : Nat → Nat → Bool) (k p : Nat) : plusFn F (k + 1) p k = plusFn F k p k := by
  rw [plusFn_succ]
  cases plusFn F k p k <;> simp
theorem plusFn_row (F : Nat → Nat → Bool) (k q : Nat) : plusFn F (k + 1) k q = plusFn F k k q := by
  rw [plusFn_succ]
  cases plusFn F k k q <;> simp
theorem fill_col (F : Nat → Nat → Bool) (N k p q x : Nat) : fillF (plusFn F (k + 1)) (plusFn F k) N p q x k = plusFn F k x k := by
  unfold fillF
  split
  · exact plusFn_col F k x
  · rfl
theorem fill_row (F : Nat → Nat → Bool) (N k p q y : Nat) : fillF (plusFn F (k + 1)) (plusFn F k) N p q k y = plusFn F k k y := by
  unfold fillF
  split
  · exact plusFn_row F k y
  · rfl
theorem fill_still (F : Nat → Nat → Bool) (N k p : Nat) (h : plusFn F k p k = false) (x y : Nat) : fillF (plusFn F (k + 1)) (plusFn F k) N p 0 x y = fillF (plusFn F (k + 1)) (plusFn F k) N (p + 1) 0 x y := by
  unfold fillF
  by_cases h1 : x < p ∧ y < N
  · rw [if_pos (by omega), if_pos (by omega)]
  · rw [if_neg (by omega)]
    by_cases h2 : x = p ∧ y < N
    · rw [if_pos (by omega), plusFn_succ, h2.1, h]
      simp
    · rw [if_neg (by omega)]
set_option maxRecDepth 100000 in
set_option maxHeartbeats 8000000 in
theorem refPlus_calls (lo N : Nat) (hN : N ≤ 256) (x : Option Addr) (y z : Nat) (rb : Nat → Nat) (F : Nat → Nat → Bool) (w : World) (h : RefM lo w (.slice x y z) N N rb F) :
    Calls Tryd.prog 55 #[.agg #[.int .i64 ((N : Nat) : Int), .slice x y z]] w fun e w' => ∃ M rb', e = .returned (.agg #[.int .i64 ((N : Nat) : Int), M]) ∧ RefM w.heap.size w' M N N rb' (plusFn F N) ∧ Below w.heap.size w w' := by
  have HN : Hid (N = max N 0) := by show _ = _; omega
  go_enter Tryd.func55, Tryd.ntmps55
  go_wp2_with fail
  refine (refWide_at lo N hN x y z rb F 0 N (by omega) HN _ ((h.alloc _).alloc _)).mono ?_
  rintro e w1 ⟨M, rbw, rfl, hRM, hB1⟩
  obtain ⟨x2, y2, z2, rfl⟩ := hRM.slice
  have hA : MkAt w (w1.alloc (.cells #[.int .i64 ((N : Nat) : Int), .slice x2 y2 z2] 46)) 2 [(0, #[.int .i64 ((N : Nat) : Int), .slice x y z]), (1, #[.int .i64 0, .slice none 0 0])] w1.heap.size N (.slice x2 y2 z2) rbw (plusFn F 0) := by
    refine MkAt.begin (((Below.refl _ w).alloc (Nat.le_refl _) _).alloc (by simp) _) (by simp) ?_ (hRM.congr fun p q hp hq => ?_) hB1
    · intro x hx
      simp only [List.mem_cons, List.not_mem_nil, or_false] at hx
      rcases hx with rfl | rfl
      · exact ⟨by omega, (Blk.new w _ _).alloc _⟩
      · exact ⟨by omega, Blk.new2 w _ _ _⟩
    · rw [fill_ext, ext_in hp hq]
      rfl
  clear hRM hB1
  go_wp2_with fail
  generalize w1.heap.size = B at *
  go_loopw [4] (fun i wr => ∃ k, k ≤ N ∧ i = .int .i64 ((k : Nat) : Int) ∧ MkAt w wr 2 [(0, #[.int .i64 ((N : Nat) : Int), .slice x y z]), (1, #[.int .i64 0, .slice none 0 0])] B N (.slice x2 y2 z2) rbw (plusFn F k)) (fun i _ => N - (intOf i).toNat)
  case atStart => exact ⟨0, by omega, rfl, hA⟩
  case round =>
    clear hA
    obtain ⟨k, hk, rfl, hA⟩ := hrel
    have c0 := hA.box.cell (j := 0) rfl
    by_cases hlt : k < N
    · rw [← fillF_zero (plusFn F (k + 1)) (plusFn F k) N] at hA
      go_wp2_with fail
      clear c0
      go_loopw [5] (fun i wr => ∃ p, p ≤ N ∧ i = .int .i64 ((p : Nat) : Int) ∧ MkAt w wr 2 [(0, #[.int .i64 ((N : Nat) : Int), .slice x y z]), (1, #[.int .i64 0, .slice none 0 0])] B N (.slice x2 y2 z2) rbw (fillF (plusFn F (k + 1)) (plusFn F k) N p 0)) (fun i _ => N - (intOf i).toNat)
      case atStart => exact ⟨0, by omega, rfl, hA⟩
      case round =>
        clear hA
        obtain ⟨p, hp, rfl, hA⟩ := hrel
        have c0 := hA.box.cell (j := 0) rfl
        by_cases hlt2 : p < N
        · cases hv : plusFn F k p k
          · have hA2 := hA.congr (fun x y _ _ => fill_still F N k p hv x y)
            have Hv : Hid (plusFn F k p k = false) := hv
            clear hA hv
            go_wp2_with fail
            clear c0
            go_loopw [6] (fun i wr => i = .int .i64 0 ∧ MkAt w wr 2 [(0, #[.int .i64 ((N : Nat) : Int), .slice x y z]), (1, #[.int .i64 0, .slice none 0 0])] B N (.slice x2 y2 z2) rbw (fillF (plusFn F (k + 1)) (plusFn F k) N (p + 1) 0)) (fun _ _ => 0)
            case atStart => exact ⟨rfl, hA2⟩
            case round =>
              clear hA2
              obtain ⟨rfl, hA⟩ := hrel
              have d1 := hA.box.cell (j := 1) rfl
              obtain ⟨g2, cap2, e2, _, _, _, s0, s1, _, _⟩ := hA.ref.at_ (p := p) (q := k) hlt2 hlt
              cases e2
              rw [fill_col, Hv.out] at s1
              go_wp2_with fail
              refine ⟨⟨p + 1, by omega, by go_num, hA⟩, by simp [intOf]; omega⟩
          · have Hv : Hid (plusFn F k p k = true) := hv
            clear hv
            go_wp2_with fail
            clear c0
            go_loopw [6] (fun i wr => ∃ q, q ≤ N ∧ i = .int .i64 ((q : Nat) : Int) ∧ MkAt w wr 2 [(0, #[.int .i64 ((N : Nat) : Int), .slice x y z]), (1, #[.int .i64 0, .slice none 0 0])] B N (.slice x2 y2 z2) rbw (fillF (plusFn F (k + 1)) (plusFn F k) N p q)) (fun i _ => N - (intOf i).toNat)
            case atStart => exact ⟨0, by omega, rfl, hA⟩
            case round =>
              clear hA
              obtain ⟨q, hq, rfl, hA⟩ := hrel
              have c0 := hA.box.cell (j := 0) rfl
              have d1 := hA.box.cell (j := 1) rfl
              obtain ⟨g2, cap2, e2, _, _, _, s0, s1, _, _⟩ := hA.ref.at_ (p := p) (q := k) hlt2 hlt
              rw [fill_col, Hv.out] at s1
              by_cases hlt3 : q < N
              · obtain ⟨g3, cap3, e3, _, _, _, t0, t1, _, _⟩ := hA.ref.at_ (p := k) (q := q) hlt hlt3
                obtain ⟨g4, cap4, e4, _, _, n4, u0, u1, fz, _⟩ := hA.ref.at_ (p := p) (q := q) hlt2 hlt3
                cases e2
                cases e3
                cases e4
                rw [fill_row] at t1
                rw [fillF_at] at u1
                have hval : plusFn F (k + 1) p q = (plusFn F k p q || plusFn F k k q) := by rw [plusFn_succ, Hv.out, Bool.true_and]
                have hA2 := hA.drew.put (p := p) (q := q) hlt2 hlt3 (plusFn F k p q || plusFn F k k q)
                rw [← hval, fillF_put] at hA2
                cases hu : plusFn F k p q
                · rw [hval, hu, Bool.false_or] at hA2
                  rw [hu] at u1
                  clear hval hu
                  go_wp2_with fail
                  go_region
                  all_goals
                    go_wp2_with fail
                    refine ⟨⟨q + 1, by omega, by go_num, hA2⟩, by simp [intOf]; omega⟩
                · rw [hval, hu, Bool.true_or] at hA2
                  rw [hu] at u1
                  clear hval hu
                  go_wp2_with fail
                  go_region
                  all_goals
                    go_wp2_with fail
                    refine ⟨⟨q + 1, by omega, by go_num, hA2⟩, by simp [intOf]; omega⟩
              · have e : N = q := by omega
                subst e
                cases e2
                rw [fillF_row] at hA
                go_wp2_with fail
                refine ⟨⟨p + 1, by omega, by go_num, hA⟩, by simp [intOf]; omega⟩
        · have e : N = p := by omega
          subst e
          have hA2 := hA.congr (G := plusFn F (k + 1)) (fun x y hx hy => fillF_full hx hy)
          go_wp2_with fail
          refine ⟨⟨k + 1, by omega, by go_num, hA2⟩, by simp [intOf]; omega⟩
    · have e : N = k := by omega
      subst e
      have b1 := hA.box.cell (j := 1) rfl
      have hr := hA.snd
      have d0 := hr.cell (j := 0) rfl
      have d1 := hr.cell (j := 1) rfl
      have f0 := hr.frozen 0
      have f1 := hr.frozen 1
      go_wp2_with fail
      have hres := (hr.set 0 (.int .i64 ((N : Nat) : Int))).set 1 (.slice x2 y2 z2)
      simp only [List.setIfInBounds_toArray, List.set_cons_zero, List.set_cons_succ] at hres
      (try simp only [Exit.inBlock, Exit.then])
      refine bodyPost_ret (ret_ref rfl rfl hres) rfl ?_
      obtain ⟨hA1, hB1⟩ := hA.answer (r := 1) (by omega)
      first | exact ⟨_, rbw, rfl, hA1, hB1⟩ | exact ⟨_, rfl, ⟨rbw, hA1⟩, hB1⟩
end Go.Proofs.YtmmgdeoballhpaaDoor
/- Of RefSame, what this seat can build. -/
namespace Go.Proofs.YtmmgdeoballhpaaDoor
open Go.RowKit Go.Shelf Sx Relation

/-- The table F and the rows L have the same pairs, of points below N. -/
def Same (N : Nat) (F : Nat → Nat → Bool) (L : List Nat) : Prop := ∀ p q, p < N → q < N → (F p q = true ↔ hs L p q)
section
variable {N : Nat} {F : Nat → Nat → Bool} {L : List Nat}
theorem same_plusN (h : Same N F L) (hl : L.length = N) (k : Nat) (hk : k ≤ N) : Same N (plusFn F k) (plusN L k) := by
  induction k with
  | zero => exact h
  | succ k ih =>
    intro p q hp hq
    have ih := ih (by omega)
    rw [plusFn_succ, Bool.or_eq_true, Bool.and_eq_true, plusN_step hl, ih p q hp hq, ih p k hp (by omega), ih k q (by omega) hq]
theorem same_plus (h : Same N F L) (hl : L.length = N) : Same N (plusFn F N) (plusL L) := by
  have := same_plusN h hl N (Nat.le_refl _)
  unfold plusL
  rw [hl]
  exact this
end
end Go.Proofs.YtmmgdeoballhpaaDoor
/- The contract of the document's own Comp. -/
namespace Go.Proofs.YtmmgdeoballhpaaDoor
open Go.RowKit Go.Shelf Sx

def cmpF (X Y : Nat → Nat → Bool) : Nat → Nat → Nat → Bool
  | 0 => fun _ _ => false
  | q + 1 => fun p s => cmpF X Y q p s || (X p q && Y q s)
theorem cmpF_succ (X Y : Nat → Nat → Bool) (q p s : Nat) : cmpF X Y (q + 1) p s = (cmpF X Y q p s || (X p q && Y q s)) := rfl
def rowsF (X Y : Nat → Nat → Bool) (N p q : Nat) : Nat → Nat → Bool := fun x y => if x < p then cmpF X Y N x y else if x = p then cmpF X Y q x y else false
theorem rowsF_zero (X Y : Nat → Nat → Bool) (N x y : Nat) : rowsF X Y N 0 0 x y = false := by
  unfold rowsF
  rw [if_neg (by omega)]
  split <;> rfl
theorem rowsF_still (X Y : Nat → Nat → Bool) (N p q : Nat) (h : X p q = false) (x y : Nat) : rowsF X Y N p q x y = rowsF X Y N p (q + 1) x y := by
  unfold rowsF
  by_cases h1 : x < p
  · rw [if_pos h1, if_pos h1]
  · rw [if_neg h1, if_neg h1]
    by_cases h2 : x = p
    · subst h2
      rw [if_pos rfl, if_pos rfl, cmpF_succ, h]
      simp
    · rw [if_neg h2, if_neg h2]
theorem rowsF_next (X Y : Nat → Nat → Bool) (N p x y : Nat) : rowsF X Y N p N x y = rowsF X Y N (p + 1) 0 x y := by
  unfold rowsF
  by_cases h1 : x < p
  · rw [if_pos h1, if_pos (by omega)]
  · rw [if_neg h1]
    by_cases h2 : x = p
    · subst h2
      rw [if_pos rfl, if_pos (by omega)]
    · rw [if_neg h2, if_neg (by omega)]
      split <;> rfl
theorem rowsF_filled (X Y : Nat → Nat → Bool) (N p q x y : Nat) (hy : y < N) : fillF (cmpF X Y (q + 1)) (rowsF X Y N p q) 0 p N x y = rowsF X Y N p (q + 1) x y := by
  unfold fillF rowsF
  by_cases h1 : x < p
  · rw [if_neg (by omega), if_pos h1, if_pos h1]
  · by_cases h2 : x = p
    · subst h2
      rw [if_pos (by omega), if_neg h1, if_pos rfl]
    · rw [if_neg (by omega), if_neg h1, if_neg h1, if_neg h2, if_neg h2]
theorem rowsF_here (X Y : Nat → Nat → Bool) (N p q s : Nat) : rowsF X Y N p q p s = cmpF X Y q p s := by
  unfold rowsF
  rw [if_neg (by omega), if_pos rfl]

structure CompB (w W : World) (bx bY N : Nat) (M1 M2 : Value) (r1 r2 : Nat → Nat) (X Y : Nat → Nat → Bool) : Prop where
  below : Below w.heap.size w W
  res : Blk W (w.heap.size + 2) 46 #[.int .i64 0, .slice none 0 0]
  hx : Blk W bx 46 #[.int .i64 ((N : Nat) : Int), M1]
  hy : Blk W bY 46 #[.int .i64 ((N : Nat) : Int), M2]
  rx : RefM 0 W M1 N N r1 X
  ry : RefM 0 W M2 N N r2 Y
theorem CompB.step {w W W' : World} {bx bY N : Nat} {M1 M2 : Value} {r1 r2 : Nat → Nat} {X Y : Nat → Nat → Bool} (h : CompB w W bx bY N M1 M2 r1 r2 X Y) (hB : Below W.heap.size W W') : CompB w W' bx bY N M1 M2 r1 r2 X Y :=
  ⟨below_step h.below h.below.size hB, h.res.of_below hB, h.hx.of_below hB, h.hy.of_below hB, h.rx.below hB, h.ry.below hB⟩

set_option maxRecDepth 100000 in
set_option maxHeartbeats 8000000 in
theorem refComp_calls (lo lo2 n m N : Nat) (hn : n ≤ 256) (hm : m ≤ 256) (HN : Hid (N = max n m)) (x : Option Addr) (y z : Nat) (rb : Nat → Nat) (F : Nat → Nat → Bool) (x1 : Option Addr) (y1 z1 : Nat) (rb1 : Nat → Nat) (G : Nat → Nat → Bool) (w : World) (h : RefM lo w (.slice x y z) n n rb F) (h1 : RefM lo2 w (.slice x1 y1 z1) m m rb1 G) :
    Calls Tryd.prog 58 #[.agg #[.int .i64 ((n : Nat) : Int), .slice x y z], .agg #[.int .i64 ((m : Nat) : Int), .slice x1 y1 z1]] w fun e w' => ∃ M rb', e = .returned (.agg #[.int .i64 ((N : Nat) : Int), M]) ∧ RefM w.heap.size w' M N N rb' (cmpF (extF n F) (extF m G) N) ∧ Below w.heap.size w w' := by
  have hN : N ≤ 256 := by have := HN.out; omega
  have HN2 : Hid (N = max m n) := by show _ = _; have := HN.out; omega
  have hW0 : Below w.heap.size w (((w.alloc (.cells #[.int .i64 ((n : Nat) : Int), .slice x y z] 46)).alloc (.cells #[.int .i64 ((m : Nat) : Int), .slice x1 y1 z1] 46)).alloc (.cells #[.int .i64 0, .slice none 0 0] 46)) := (((Below.refl _ w).alloc (Nat.le_refl _) _).alloc (by simp) _).alloc (by simp; omega) _
  go_enter Tryd.func58, Tryd.ntmps58
  go_wp2_with fail
  refine (refWide_at lo n hn x y z rb F m N hm HN _ (((h.alloc _).alloc _).alloc _)).mono ?_
  rintro e w1 ⟨M1, r1, rfl, hR1, hB1⟩
  obtain ⟨x2, y2, z2, rfl⟩ := hR1.slice
  have ba := (((((Blk.new w 46 #[.int .i64 ((n : Nat) : Int), .slice x y z]).alloc (.cells #[.int .i64 ((m : Nat) : Int), .slice x1 y1 z1] 46)).alloc (.cells #[.int .i64 0, .slice none 0 0] 46)).of_below hB1).alloc (.cells #[.int .i64 ((N : Nat) : Int), .slice x2 y2 z2] 46))
  have bb := ((((Blk.new2 w (.cells #[.int .i64 ((n : Nat) : Int), .slice x y z] 46) 46 #[.int .i64 ((m : Nat) : Int), .slice x1 y1 z1]).alloc (.cells #[.int .i64 0, .slice none 0 0] 46)).of_below hB1).alloc (.cells #[.int .i64 ((N : Nat) : Int), .slice x2 y2 z2] 46))
  have br := ((Blk.new3 w (.cells #[.int .i64 ((n : Nat) : Int), .slice x y z] 46) (.cells #[.int .i64 ((m : Nat) : Int), .slice x1 y1 z1] 46) 46 #[.int .i64 0, .slice none 0 0]).of_below hB1).alloc (.cells #[.int .i64 ((N : Nat) : Int), .slice x2 y2 z2] 46)
  have bx := Blk.new w1 46 #[.int .i64 ((N : Nat) : Int), .slice x2 y2 z2]
  have hW1 := below_step hW0 hW0.size hB1
  have hW1a := hW1.alloc hW1.size (.cells #[.int .i64 ((N : Nat) : Int), .slice x2 y2 z2] 46)
  have rX := ((hR1.congr (G := extF n F) (fun p q _ _ => fill_ext n F p q)).mono (Nat.zero_le _)).alloc (.cells #[.int .i64 ((N : Nat) : Int), .slice x2 y2 z2] 46)
  have h1a := h1.below hW1a
  clear hR1 hB1 hW0 hW1
  have a0 := ba.cell (j := 0) rfl
  have b0 := bb.cell (j := 0) rfl
  have b1 := bb.cell (j := 1) rfl
  go_wp2_with fail
  generalize hw1a : w1.alloc (.cells #[.int .i64 ((N : Nat) : Int), .slice x2 y2 z2] 46) = W1 at *
  generalize w1.heap.size = BX at *
  refine (refWide_at lo2 m hm x1 y1 z1 rb1 G n N hn HN2 _ h1a).mono ?_
  rintro e w2 ⟨M2, r2, rfl, hR2, hB2⟩
  obtain ⟨x3, y3, z3, rfl⟩ := hR2.slice
  have hW2 := below_step hW1a hW1a.size hB2
  have hC : CompB w (w2.alloc (.cells #[.int .i64 ((N : Nat) : Int), .slice x3 y3 z3] 46)) BX w2.heap.size N (.slice x2 y2 z2) (.slice x3 y3 z3) r1 r2 (extF n F) (extF m G) :=
    ⟨hW2.alloc hW2.size _, (br.of_below hB2).alloc _, (bx.of_below hB2).alloc _, Blk.new _ _ _, (rX.below hB2).alloc _, ((hR2.congr (G := extF m G) (fun p q _ _ => fill_ext m G p q)).mono (Nat.zero_le _)).alloc _⟩
  clear ba bb br bx hW1a rX h1a hR2 hB2 hW2 a0 b0 b1 h h1
  have a0 := hC.hx.cell (j := 0) rfl
  go_wp2_with fail
  generalize w2.alloc (.cells #[.int .i64 ((N : Nat) : Int), .slice x3 y3 z3] 46) = w3 at *
  generalize w2.heap.size = BY at *
  clear a0
  refine (refNew_mid N hN _).mono ?_
  rintro e w4 ⟨M, rbw, rfl, hRM, hB4⟩
  obtain ⟨x4, y4, z4, rfl⟩ := hRM.slice
  have hA : MkAt w3 (w4.alloc (.cells #[.int .i64 ((N : Nat) : Int), .slice x4 y4 z4] 46)) 0 [] w4.heap.size N (.slice x4 y4 z4) rbw (rowsF (extF n F) (extF m G) N 0 0) :=
    MkAt.begin (Below.refl _ _) (by simp) (fun x hx => by cases hx) (hRM.congr fun p q hp hq => (rowsF_zero _ _ N p q).symm) hB4
  clear hRM hB4
  go_wp2_with fail
  generalize w4.heap.size = B at *
  go_loopw [8] (fun i wr => ∃ p, p ≤ N ∧ i = .int .i64 ((p : Nat) : Int) ∧ MkAt w3 wr 0 [] B N (.slice x4 y4 z4) rbw (rowsF (extF n F) (extF m G) N p 0)) (fun i _ => N - (intOf i).toNat)
  case atStart => exact ⟨0, by omega, rfl, hA⟩
  case round =>
    clear hA
    obtain ⟨p, hp, rfl, hA⟩ := hrel
    have c0 := hA.box.cell (j := 0) rfl
    by_cases hlt : p < N
    · go_wp2_with fail
      clear c0
      go_loopw [9] (fun i wr => ∃ q, q ≤ N ∧ i = .int .i64 ((q : Nat) : Int) ∧ MkAt w3 wr 0 [] B N (.slice x4 y4 z4) rbw (rowsF (extF n F) (extF m G) N p q)) (fun i _ => N - (intOf i).toNat)
      case atStart => exact ⟨0, by omega, rfl, hA⟩
      case round =>
        clear hA
        obtain ⟨q, hq, rfl, hA⟩ := hrel
        have c0 := hA.box.cell (j := 0) rfl
        by_cases hlt2 : q < N
        · cases hv : extF n F p q
          · have hA2 := hA.congr (fun x y _ _ => rowsF_still (extF n F) (extF m G) N p q hv x y)
            have Hv : Hid (extF n F p q = false) := hv
            clear hA hv
            go_wp2_with fail
            clear c0
            go_loopw [10] (fun i wr => i = .int .i64 0 ∧ MkAt w3 wr 0 [] B N (.slice x4 y4 z4) rbw (rowsF (extF n F) (extF m G) N p (q + 1))) (fun _ _ => 0)
            case atStart => exact ⟨rfl, hA2⟩
            case round =>
              clear hA2
              obtain ⟨rfl, hA⟩ := hrel
              have hC2 := hC.step hA.below
              have d1 := hC2.hx.cell (j := 1) rfl
              obtain ⟨g2, cap2, e2, _, _, _, s0, s1, _, _⟩ := hC2.rx.at_ (p := p) (q := q) hlt hlt2
              cases e2
              rw [Hv.out] at s1
              go_wp2_with fail
              refine ⟨⟨q + 1, by omega, by go_num, hA⟩, by simp [intOf]; omega⟩
          · have Hv : Hid (extF n F p q = true) := hv
            have hA2 : MkAt w3 _ 0 [] B N (.slice x4 y4 z4) rbw (fillF (cmpF (extF n F) (extF m G) (q + 1)) (rowsF (extF n F) (extF m G) N p q) 0 p 0) := hA.congr (fun x y _ _ => by unfold fillF; rw [if_neg (by omega)])
            clear hv hA
            go_wp2_with fail
            clear c0
            go_loopw [10] (fun i wr => ∃ s, s ≤ N ∧ i = .int .i64 ((s : Nat) : Int) ∧ MkAt w3 wr 0 [] B N (.slice x4 y4 z4) rbw (fillF (cmpF (extF n F) (extF m G) (q + 1)) (rowsF (extF n F) (extF m G) N p q) 0 p s)) (fun i _ => N - (intOf i).toNat)
            case atStart => exact ⟨0, by omega, rfl, hA2⟩
            case round =>
              clear hA2
              obtain ⟨s, hs, rfl, hA⟩ := hrel
              have hC2 := hC.step hA.below
              have c0 := hA.box.cell (j := 0) rfl
              have d1 := hC2.hx.cell (j := 1) rfl
              obtain ⟨g2, cap2, e2, _, _, _, s0, s1, _, _⟩ := hC2.rx.at_ (p := p) (q := q) hlt hlt2
              rw [Hv.out] at s1
              by_cases hlt3 : s < N
              · have k1 := hC2.hy.cell (j := 1) rfl
                have m1 := hA.box.cell (j := 1) rfl
                obtain ⟨g3, cap3, e3, _, _, _, t0, t1, _, _⟩ := hC2.ry.at_ (p := q) (q := s) hlt2 hlt3
                obtain ⟨g4, cap4, e4, _, _, n4, u0, u1, fz, _⟩ := hA.ref.at_ (p := p) (q := s) hlt hlt3
                cases e2
                cases e3
                cases e4
                rw [fillF_at, rowsF_here] at u1
                have hval : cmpF (extF n F) (extF m G) (q + 1) p s = (cmpF (extF n F) (extF m G) q p s || extF m G q s) := by rw [cmpF_succ, Hv.out, Bool.true_and]
                have hA2 := hA.drew.put (p := p) (q := s) hlt hlt3 (cmpF (extF n F) (extF m G) q p s || extF m G q s)
                rw [← hval, fillF_put] at hA2
                cases hu : cmpF (extF n F) (extF m G) q p s
                · rw [hval, hu, Bool.false_or] at hA2
                  rw [hu] at u1
                  clear hval hu
                  go_wp2_with fail
                  go_region
                  all_goals
                    go_wp2_with fail
                    refine ⟨⟨s + 1, by omega, by go_num, hA2⟩, by simp [intOf]; omega⟩
                · rw [hval, hu, Bool.true_or] at hA2
                  rw [hu] at u1
                  clear hval hu
                  go_wp2_with fail
                  go_region
                  all_goals
                    go_wp2_with fail
                    refine ⟨⟨s + 1, by omega, by go_num, hA2⟩, by simp [intOf]; omega⟩
              · have e : N = s := by omega
                subst e
                cases e2
                have hA2 := hA.congr (fun x y _ hy => rowsF_filled (extF n F) (extF m G) N p q x y hy)
                go_wp2_with fail
                refine ⟨⟨q + 1, by omega, by go_num, hA2⟩, by simp [intOf]; omega⟩
        · have e : N = q := by omega
          subst e
          have hA2 := hA.congr (fun x y _ _ => rowsF_next (extF n F) (extF m G) N p x y)
          go_wp2_with fail
          refine ⟨⟨p + 1, by omega, by go_num, hA2⟩, by simp [intOf]; omega⟩
    · have e : N = p := by omega
      subst e
      have hA := hA.congr (G := cmpF (extF n F) (extF m G) N) (fun x y hx _ => by unfold rowsF; rw [if_pos hx])
      have hC2 := hC.step hA.below
      have b1 := hA.box.cell (j := 1) rfl
      have hr := hC2.res
      have d0 := hr.cell (j := 0) rfl
      have d1 := hr.cell (j := 1) rfl
      have f0 := hr.frozen 0
      have f1 := hr.frozen 1
      go_wp2_with fail
      have hres := (hr.set 0 (.int .i64 ((N : Nat) : Int))).set 1 (.slice x4 y4 z4)
      simp only [List.setIfInBounds_toArray, List.set_cons_zero, List.set_cons_succ] at hres
      (try simp only [Exit.inBlock, Exit.then])
      refine bodyPost_ret (ret_ref rfl rfl hres) rfl ?_
      have hl := hC.res.lt
      have hA1 : RefM w.heap.size ((_ : World).setCell ⟨w.heap.size + 2, 0, none⟩ (.int .i64 ((N : Nat) : Int)) |>.setCell ⟨w.heap.size + 2, 1, none⟩ (.slice x4 y4 z4)) (.slice x4 y4 z4) N N rbw (cmpF (extF n F) (extF m G) N) := RefM.mono (hA.ref.below' fun g hg _ => by rw [Below.heap_setCell _ _ _ _ (by simp; omega), Below.heap_setCell _ _ _ _ (by simp; omega)]) (by omega)
      have hB1 := (hC2.below.setCell (p := ⟨w.heap.size + 2, 0, none⟩) (by simp) (.int .i64 ((N : Nat) : Int))).setCell (p := ⟨w.heap.size + 2, 1, none⟩) (by simp) (.slice x4 y4 z4)
      first | exact ⟨_, rbw, rfl, hA1, hB1⟩ | exact ⟨_, rfl, ⟨rbw, hA1⟩, hB1⟩
end Go.Proofs.YtmmgdeoballhpaaDoor
/- Of RefLook, what this seat can build. -/
namespace Go.Proofs.YtmmgdeoballhpaaDoor
open Go.RowKit Go.Shelf Sx

def irrF (n : Nat) (F : Nat → Nat → Bool) : Bool := (List.range n).all fun p => !F p p
theorem irrF_false {n p : Nat} {F : Nat → Nat → Bool} (hp : p < n) (h : F p p = true) : irrF n F = false := by
  unfold irrF
  rw [List.all_eq_false]
  exact ⟨p, by simpa using hp, by simp [h]⟩
theorem irrF_true {n : Nat} {F : Nat → Nat → Bool} (h : ∀ p, p < n → F p p = false) : irrF n F = true := by
  unfold irrF
  rw [List.all_eq_true]
  intro p hp
  simp [h p (by simpa using hp)]
set_option maxHeartbeats 1000000 in
theorem refIrr_calls (lo n : Nat) (hn : n ≤ 256) (x : Option Addr) (y z : Nat) (rb : Nat → Nat) (F : Nat → Nat → Bool) (w : World) (h : RefM lo w (.slice x y z) n n rb F) (v : Bool) (Hv : Hid (irrF n F = v)) :
    Calls Tryd.prog 56 #[.agg #[.int .i64 ((n : Nat) : Int), .slice x y z]] w fun e w' => e = .returned (.bool v) ∧ Below w.heap.size w w' := by
  have hB0 : Below w.heap.size w (w.alloc (.cells #[.int .i64 ((n : Nat) : Int), .slice x y z] 46)) := (Below.refl _ _).alloc (Nat.le_refl _) _
  have hb0 := Blk.new w 46 #[.int .i64 ((n : Nat) : Int), .slice x y z]
  have h0 := h.below hB0
  go_enter Tryd.func56, Tryd.ntmps56
  go_wp2_with fail
  generalize w.alloc (.cells #[.int .i64 ((n : Nat) : Int), .slice x y z] 46) = W at *
  have c0 := hb0.cell (j := 0) rfl
  have c1 := hb0.cell (j := 1) rfl
  go_loopw [3] (fun i wr => ∃ k, k ≤ n ∧ i = .int .i64 ((k : Nat) : Int) ∧ wr = W ∧ Hid (∀ p, p < k → F p p = false)) (fun i _ => n - (intOf i).toNat)
  case atStart => exact ⟨0, by omega, rfl, rfl, fun p hp => by omega⟩
  case round =>
    obtain ⟨k, hk, rfl, rfl, HF⟩ := hrel
    by_cases hlt : k < n
    · obtain ⟨g, cap, e, _, _, _, d0, d1, _, _⟩ := h0.at_ hlt hlt
      cases e
      cases hf : F k k
      · rw [hf] at d1
        have HF2 : Hid (∀ p, p < k + 1 → F p p = false) := by
          intro p hp
          by_cases e : p = k
          · rw [e]; exact hf
          · exact HF.out p (by omega)
        clear hf
        go_wp2_with fail
        refine ⟨⟨k + 1, by omega, by go_num, by first | rfl | trivial, HF2⟩, by simp [intOf]; omega⟩
      · rw [hf] at d1
        obtain rfl : v = false := by rw [← Hv.out]; exact irrF_false hlt hf
        clear hf
        go_wp2_with fail
        go_ret
        exact ⟨rfl, hB0⟩
    · have e : n = k := by omega
      subst e
      obtain rfl : v = true := by rw [← Hv.out]; exact irrF_true HF.out
      go_wp2_with fail
      go_ret
      exact ⟨rfl, hB0⟩
end Go.Proofs.YtmmgdeoballhpaaDoor
/- The contract of the document's own Pairs. -/
namespace Go.Proofs.YtmmgdeoballhpaaDoor
open Go.RowKit Go.Shelf Sx

def prsRow (F : Nat → Nat → Bool) (p q : Nat) : List (Nat × Nat) := ((List.range q).filter (F p)).map (fun y => (p, y))
def prsF (n : Nat) (F : Nat → Nat → Bool) (p q : Nat) : List (Nat × Nat) := (List.range p).flatMap (fun x => prsRow F x n) ++ prsRow F p q
theorem prsRow_succ (F : Nat → Nat → Bool) (p q : Nat) : prsRow F p (q + 1) = prsRow F p q ++ (if F p q then [(p, q)] else []) := by
  unfold prsRow
  rw [List.range_succ, List.filter_append, List.map_append]
  congr 1
  cases h : F p q <;> simp [h]
theorem prsF_yes {n : Nat} {F : Nat → Nat → Bool} {p q : Nat} (h : F p q = true) : prsF n F p (q + 1) = prsF n F p q ++ [(p, q)] := by
  unfold prsF
  rw [prsRow_succ, h, if_pos rfl, List.append_assoc]
theorem prsF_no {n : Nat} {F : Nat → Nat → Bool} {p q : Nat} (h : F p q = false) : prsF n F p (q + 1) = prsF n F p q := by
  unfold prsF
  rw [prsRow_succ, h]
  simp
theorem prsF_next (n : Nat) (F : Nat → Nat → Bool) (p : Nat) : prsF n F p n = prsF n F (p + 1) 0 := by
  unfold prsF
  rw [List.range_succ, List.flatMap_append]
  simp [prsRow]

structure PrAt (w W : World) (n : Nat) (A v : Value) (l : List (Nat × Nat)) : Prop where
  below : Below w.heap.size w W
  box : Blk W w.heap.size 46 #[.int .i64 ((n : Nat) : Int), A]
  own : W.ownsRow (w.heap.size + 1) 37 2 v l.length (encPs l)
theorem PrAt.more {w W W' : World} {n : Nat} {A v v' : Value} {l : List (Nat × Nat)} {a b : Nat} (h : PrAt w W n A v l)
    (hown : W'.ownsRow (w.heap.size + 1) 37 2 v' (l.length + 1) (encPs l ++ [.int .i64 ((a : Nat) : Int), .int .i64 ((b : Nat) : Int)]))
    (hg : (W.alloc (.cells #[.int .i64 ((a : Nat) : Int), .int .i64 ((b : Nat) : Int)] 37)).grownBy W' v.ownBlock) : PrAt w W' n A v' (l ++ [(a, b)]) := by
  have hlt := h.box.lt
  refine ⟨(h.below.alloc h.below.size _).grown hg (by simp; omega) (fun k e => by have := (h.own.lt k e).1; omega), ?_, ?_⟩
  · exact (hg.block _ (by simp; omega) (fun e => by have := (h.own.lt _ e.symm).1; omega)).trans (h.box.alloc _)
  · rw [encPs_snoc, List.length_append]
    exact hown

theorem owns_lower {w : World} {base base' : Nat} {e : TypeId} {size : Nat} {v : Value} {n : Nat} {xs : List Value} (h : w.ownsRow base e size v n xs) (hb : base' ≤ base) : w.ownsRow base' e size v n xs := by
  refine ⟨h.1, ?_⟩
  rcases h.2 with h2 | ⟨g, cap, cur, e1, e2, e3⟩
  · exact .inl h2
  · exact .inr ⟨g, cap, cur, e1, Nat.le_trans hb e2, e3⟩
set_option maxRecDepth 100000 in
set_option maxHeartbeats 4000000 in
theorem refPairs_calls (lo n : Nat) (hn : n ≤ 256) (x : Option Addr) (y z : Nat) (rb : Nat → Nat) (F : Nat → Nat → Bool) (w : World) (h : RefM lo w (.slice x y z) n n rb F) :
    Calls Tryd.prog 34 #[.agg #[.int .i64 ((n : Nat) : Int), .slice x y z]] w fun e w' => ∃ v, e = .returned v ∧ w'.ownsRow w.heap.size 37 2 v (prsF n F n 0).length (encPs (prsF n F n 0)) ∧ Below w.heap.size w w' := by
  obtain ⟨i0, hi, hz0, hz1, hz2⟩ := info_parts Tryd.infopair
  have hA : PrAt w (w.alloc (.cells #[.int .i64 ((n : Nat) : Int), .slice x y z] 46)) n (.slice x y z) (.slice none 0 0) [] :=
    ⟨(Below.refl _ _).alloc (Nat.le_refl _) _, Blk.new _ _ _, World.ownsRow_nil _ _ _ _⟩
  go_enter Tryd.func34, Tryd.ntmps34
  go_wp2_with fail
  go_loopw [3, 4] (fun v i wr => ∃ p l, p ≤ n ∧ i = .int .i64 ((p : Nat) : Int) ∧ PrAt w wr n (.slice x y z) v l ∧ Hid (l = prsF n F p 0) ∧ l.length ≤ p * 256) (fun _ i _ => n - (intOf i).toNat)
  case atStart => exact ⟨0, [], by omega, rfl, hA, rfl, by simp⟩
  case round =>
    clear hA
    obtain ⟨p, l, hp, rfl, hA, HL, hlen⟩ := hrel
    have c0 := hA.box.cell (j := 0) rfl
    by_cases hlt : p < n
    · go_wp2_with fail
      clear c0
      go_loopw [3, 5] (fun v i wr => ∃ q l, q ≤ n ∧ i = .int .i64 ((q : Nat) : Int) ∧ PrAt w wr n (.slice x y z) v l ∧ Hid (l = prsF n F p q) ∧ l.length ≤ p * 256 + q) (fun _ i _ => n - (intOf i).toNat)
      case atStart => exact ⟨0, l, by omega, rfl, hA, HL, by omega⟩
      case round =>
        clear hA HL hlen
        obtain ⟨q, l, hq, rfl, hA, HL, hlen⟩ := hrel
        have c0 := hA.box.cell (j := 0) rfl
        by_cases hlt2 : q < n
        · have c1 := hA.box.cell (j := 1) rfl
          obtain ⟨g, cap, e, _, _, _, d0, d1, _, _⟩ := (h.below hA.below).at_ hlt hlt2
          cases e
          cases hf : F p q
          · rw [hf] at d1
            have HL2 : Hid (l = prsF n F p (q + 1)) := by show _ = _; rw [prsF_no hf]; exact HL.out
            clear hf
            go_wp2_with fail
            refine ⟨⟨q + 1, l, by omega, by go_num, hA, HL2, by omega⟩, by simp [intOf]; omega⟩
          · rw [hf] at d1
            have HL2 : Hid (l ++ [(p, q)] = prsF n F p (q + 1)) := by show _ = _; rw [prsF_yes hf, ← HL.out]
            clear hf
            have hlt4 := hA.box.lt
            go_wp2_with (at_builtin; refine wpList_append_own_at _ rfl _ _ 38 rfl (w.heap.size + 1) 37 i0 (.agg #[.int .i64 0, .int .i64 0]) 2 16 Tryd.underlying38 hi hz0 hz1 hz2 rfl (by decide) _ _ _ rfl (hA.own.alloc _) ⟨_, 0, none⟩ 1 1 [.int .i64 ((p : Nat) : Int), .int .i64 ((q : Nat) : Int)] rfl rfl (news_two _ _ _ _) (by simp [Value.oneCell']) (by unfold maxLen; omega) (by omega) (by simp; omega) ?_; intro v' w4 hown' hgrow _ hat)
            have hA2 := hA.more hown' hgrow
            refine ⟨⟨q + 1, l ++ [(p, q)], by omega, by go_num, hA2, HL2, by simp; omega⟩, by simp [intOf]; omega⟩
        · have e : n = q := by omega
          subst e
          have HL2 : Hid (l = prsF n F (p + 1) 0) := by show _ = _; rw [← prsF_next]; exact HL.out
          go_wp2_with fail
          refine ⟨⟨p + 1, l, by omega, by go_num, hA, HL2, by omega⟩, by simp [intOf]; omega⟩
    · have e : n = p := by omega
      subst e
      have ho := hA.own
      rw [HL.out] at ho
      go_wp2_with fail
      go_ret
      exact ⟨_, rfl, owns_lower ho (by omega), hA.below⟩
end Go.Proofs.YtmmgdeoballhpaaDoor
/- Of SameMath, what this seat can build. -/
namespace Go.Proofs.YtmmgdeoballhpaaDoor
open Go.RowKit Go.Shelf Sx Relation

/-- A table and rows of one length with the same pairs. -/
structure Twin (n : Nat) (F : Nat → Nat → Bool) (L : List Nat) : Prop where
  wf : WF n L
  same : Same n F L
section
variable {n m N : Nat} {F G : Nat → Nat → Bool} {A B : List Nat}
theorem Twin.ext (h : Twin n F A) (p q : Nat) : extF n F p q = true ↔ hs A p q := by
  unfold extF
  rw [Bool.and_eq_true, Bool.and_eq_true, decide_eq_true_eq, decide_eq_true_eq]
  constructor
  · rintro ⟨h1, h2, h3⟩
    exact (h.same p q h1 h2).1 h3
  · intro h1
    have h2 := hs_left h1
    rw [h.wf.len] at h2
    exact ⟨h2, h.wf.low _ _ h1, (h.same p q h2 (h.wf.low _ _ h1)).2 h1⟩
theorem Twin.low (h : Twin n F A) {p q : Nat} (h1 : hs A p q) : p < n ∧ q < n := by
  have h2 := hs_left h1
  rw [h.wf.len] at h2
  exact ⟨h2, h.wf.low _ _ h1⟩
/-- Rows whose pairs are told whole make a twin. -/
theorem Twin.mk' {L : List Nat} {H : Nat → Nat → Bool} (hl : L.length = N) (h1 : ∀ p q, hs L p q → q < N) (h2 : ∀ p q, p < N → q < N → (H p q = true ↔ hs L p q)) : Twin N H L := ⟨⟨hl, h1⟩, h2⟩
theorem twin_minus (ha : Twin n F A) (hb : Twin m G B) (HN : N = max n m) : Twin N (fun p q => extF n F p q && !extF m G p q) (minusL A B) := by
  have hl : max A.length B.length = N := by rw [ha.wf.len, hb.wf.len, HN]
  have key : ∀ p q, hs (minusL A B) p q ↔ hs A p q ∧ ¬ hs B p q := fun p q => by
    unfold minusL
    rw [hl, hs_fill (Nat.le_refl _), testBit_ldiff, Bool.and_eq_true, Bool.not_eq_true']
    unfold hs
    rw [Bool.not_eq_true]
    exact ⟨fun h => h.2, fun h => ⟨by have := ha.low (show hs A p q from h.1); omega, h⟩⟩
  refine Twin.mk' (by unfold minusL; rw [fillK_length, hl]) ?_ ?_
  · intro p q h
    have := ha.low ((key p q).1 h).1; omega
  · intro p q _ _
    rw [Bool.and_eq_true, ha.ext, Bool.not_eq_true', ← Bool.not_eq_true, hb.ext, key]
theorem cmpF_iff (X Y : Nat → Nat → Bool) (k p q : Nat) : cmpF X Y k p q = true ↔ ∃ r, r < k ∧ X p r = true ∧ Y r q = true := by
  induction k with
  | zero => simp [cmpF]
  | succ k ih =>
    rw [cmpF_succ, Bool.or_eq_true, ih, Bool.and_eq_true]
    constructor
    · rintro (⟨r, h1, h2⟩ | h)
      · exact ⟨r, by omega, h2⟩
      · exact ⟨k, by omega, h⟩
    · rintro ⟨r, h1, h2⟩
      by_cases e : r = k
      · subst e; exact Or.inr h2
      · exact Or.inl ⟨r, by omega, h2⟩
theorem twin_comp (hn : n ≤ 256) (ha : Twin n F A) (hb : Twin m G B) (HN : N = max n m) : Twin N (cmpF (extF n F) (extF m G) N) (compL A B) := by
  have hl : max A.length B.length = N := by rw [ha.wf.len, hb.wf.len, HN]
  have key : ∀ p q, hs (compL A B) p q ↔ ∃ r, hs A p r ∧ hs B r q := fun p q => by
    unfold compL
    rw [hl]
    have e : fillK N (fun p => joinRows B (bitsOf (gr A p))) A.length = fillK N (fun p => joinRows B (bitsOf (gr A p))) N := by
      unfold fillK
      apply List.map_congr_left
      intro p hp
      have hp : p < N := by simpa using hp
      rw [if_pos hp]
      by_cases h : p < A.length
      · rw [if_pos h]
      · rw [if_neg h]
        show 0 = joinRows B (bitsOf (gr A p))
        rw [gr_not h]
        have : bitsOf 0 = [] := by
          cases e : bitsOf 0 with
          | nil => rfl
          | cons x l =>
            have : x ∈ bitsOf 0 := by rw [e]; simp
            have := (mem_bitsOf.1 this).2
            simp at this
        rw [this]
        rfl
    rw [e, hs_fill (Nat.le_refl _)]
    unfold joinRows
    rw [join_bits]
    constructor
    · rintro ⟨_, h | ⟨r, hr, h⟩⟩
      · simp at h
      · exact ⟨r, (mem_bitsOf.1 hr).2, h⟩
    · rintro ⟨r, h1, h2⟩
      have := ha.low h1
      exact ⟨by omega, Or.inr ⟨r, mem_bitsOf.2 ⟨by omega, h1⟩, h2⟩⟩
  refine Twin.mk' (by unfold compL; rw [fillK_length, hl]) ?_ ?_
  · intro p q h
    obtain ⟨r, _, h⟩ := (key p q).1 h
    have := hb.low h; omega
  · intro p q _ _
    rw [cmpF_iff, key]
    constructor
    · rintro ⟨r, _, h1, h2⟩
      exact ⟨r, (ha.ext p r).1 h1, (hb.ext r q).1 h2⟩
    · rintro ⟨r, h1, h2⟩
      have := hb.low h2
      exact ⟨r, by omega, (ha.ext p r).2 h1, (hb.ext r q).2 h2⟩
theorem twin_inv (hn : n ≤ 256) (ha : Twin n F A) : Twin n (fun p q => F q p) (invL A) :=
  ⟨wf_inv hn ha.wf, fun p q hp hq => by rw [hs_inv hn ha.wf]; exact ha.same q p hq hp⟩
theorem twin_plus (ha : Twin n F A) : Twin n (plusFn F n) (plusL A) := ⟨wf_plus ha.wf, same_plus ha.same ha.wf.len⟩
end
end Go.Proofs.YtmmgdeoballhpaaDoor
/- Of SameMath2, what this seat can build. -/
namespace Go.Proofs.YtmmgdeoballhpaaDoor
open Go.RowKit Go.Shelf Sx Relation

section
variable {n m N : Nat} {F G : Nat → Nat → Bool} {A B : List Nat}
theorem bits_row (hn : n ≤ 256) (ha : Twin n F A) {p : Nat} (hp : p < n) : bitsOf (gr A p) = (List.range n).filter (F p) := by
  unfold bitsOf bitsN
  obtain ⟨d, hd⟩ : ∃ d, 256 = n + d := ⟨256 - n, by omega⟩
  have hz : (List.map (fun x => n + x) (List.range d)).filter (gr A p).testBit = [] := by
    rw [List.filter_eq_nil_iff]
    intro q hq h
    obtain ⟨r, _, rfl⟩ := List.mem_map.1 hq
    have := (ha.low (show hs A p (n + r) from h)).2
    omega
  rw [hd, List.range_add, List.filter_append, hz, List.append_nil]
  apply List.filter_congr
  intro q hq
  have hq : q < n := by simpa using hq
  rw [Bool.eq_iff_iff]
  exact (ha.same p q hp hq).symm
theorem twin_pairs (hn : n ≤ 256) (ha : Twin n F A) : pairsL A = prsF n F n 0 := by
  unfold pairsL pairsK prsF
  rw [ha.wf.len, show prsRow F n 0 = [] from rfl, List.append_nil]
  rw [List.flatMap_def, List.flatMap_def]
  congr 1
  apply List.map_congr_left
  intro p hp
  have hp : p < n := by simpa using hp
  unfold prsRow
  rw [bits_row hn ha hp]
theorem twin_irr (ha : Twin n F A) : irrF n F = (loopsL A == 0) := by
  rw [Bool.eq_iff_iff, beq_iff_eq, loops_zero]
  unfold irrF
  rw [List.all_eq_true]
  constructor
  · intro h p hp
    have h1 := (ha.low hp).1
    have := h p (by simpa using h1)
    rw [Bool.not_eq_true', ← Bool.not_eq_true] at this
    exact this ((ha.same p p h1 h1).2 hp)
  · intro h p hp
    have hp : p < n := by simpa using hp
    rw [Bool.not_eq_true', ← Bool.not_eq_true, ha.same p p hp hp]
    exact h p
end
end Go.Proofs.YtmmgdeoballhpaaDoor
/- The contract of the reference's Components: what it keeps. -/
namespace Go.Proofs.YtmmgdeoballhpaaDoor
open Go.RowKit Go.Shelf Sx

/-- The reference's box, the closure's, and of each point its least one. -/
structure P1 (w W : World) (n : Nat) (A : Value) (cb : Nat) (M1 : Value) (rb1 : Nat → Nat) (C : Nat → Nat → Bool) (O : List Int) : Prop where
  below : Below w.heap.size w W
  box : Blk W w.heap.size 46 #[.int .i64 ((n : Nat) : Int), A]
  cbox : Blk W cb 46 #[.int .i64 ((n : Nat) : Int), M1]
  cm : RefM (w.heap.size + 1) W M1 n n rb1 C
  of_ : Blk W (cb + 1) 3 (intsA O)
  lo : w.heap.size < cb
  clt : ∀ p, p < n → rb1 p < cb
  mlt : ∀ g, M1.ownBlock = some g → g < cb
theorem P1.setO {w W : World} {n : Nat} {A : Value} {cb : Nat} {M1 : Value} {rb1 : Nat → Nat} {C : Nat → Nat → Bool} {O : List Int} (h : P1 w W n A cb M1 rb1 C O) (i : Nat) (x : Int) : P1 w (W.setCell ⟨cb + 1, i, none⟩ (.int .i64 x)) n A cb M1 rb1 C (O.set i x) := by
  have h1 := h.lo
  refine ⟨h.below.setCell (by show w.heap.size ≤ cb + 1; omega) _, h.box.setOther (by show w.heap.size ≠ cb + 1; omega) _, h.cbox.setOther (by show cb ≠ cb + 1; omega) _, h.cm.far (.inr ⟨fun p hp => ?_, fun e => ?_⟩) _ _, h.of_.setI i x, h.lo, h.clt, h.mlt⟩
  · have := h.clt p hp
    omega
  · have := h.mlt _ e
    omega
/-- The box, the least points, and the relation between them. -/
structure P3 (w W : World) (n : Nat) (A : Value) (ob : Nat) (O : List Nat) (sb lo2 : Nat) (M2 : Value) (rb2 : Nat → Nat) (S : Nat → Nat → Bool) : Prop where
  below : Below w.heap.size w W
  box : Blk W w.heap.size 46 #[.int .i64 ((n : Nat) : Int), A]
  of_ : Blk W ob 3 (intsA (toI O))
  olo : w.heap.size < ob
  sm : RefM lo2 W M2 n n rb2 S
  sbx : Blk W sb 46 #[.int .i64 ((n : Nat) : Int), M2]
  lo : ob < lo2 ∧ lo2 ≤ sb
  rlt : ∀ p, p < n → rb2 p < sb
  mlt : ∀ g, M2.ownBlock = some g → g < sb
theorem P3.step {w W W' : World} {n : Nat} {A : Value} {ob : Nat} {O : List Nat} {sb lo2 : Nat} {M2 : Value} {rb2 : Nat → Nat} {S : Nat → Nat → Bool} (h : P3 w W n A ob O sb lo2 M2 rb2 S) (hb : Below W.heap.size W W') : P3 w W' n A ob O sb lo2 M2 rb2 S :=
  ⟨below_step h.below h.below.size hb, h.box.of_below hb, h.of_.of_below hb, h.olo, h.sm.below hb, h.sbx.of_below hb, h.lo, h.rlt, h.mlt⟩
theorem P3.put {w W : World} {n : Nat} {A : Value} {ob : Nat} {O : List Nat} {sb lo2 : Nat} {M2 : Value} {rb2 : Nat → Nat} {S : Nat → Nat → Bool} (h : P3 w W n A ob O sb lo2 M2 rb2 S) {u v : Nat} (hu : u < n) (hv : v < n) : P3 w (W.setCell ⟨rb2 u, v, none⟩ (.bool true)) n A ob O sb lo2 M2 rb2 (upd S u v true) := by
  have h1 := (h.sm.row u hu).1
  have h2 := h.rlt u hu
  have h3 := h.lo
  have h4 := h.olo
  exact ⟨h.below.setCell (by show w.heap.size ≤ rb2 u; omega) _, h.box.setOther (by show w.heap.size ≠ rb2 u; omega) _, h.of_.setOther (by show ob ≠ rb2 u; omega) _, h.olo, h.sm.put hu hv true, h.sbx.setOther (by show sb ≠ rb2 u; omega) _, h.lo, h.rlt, h.mlt⟩
/-- Blocks up to hi are as they were. -/
theorem P3.keep {w W W' : World} {n : Nat} {A : Value} {ob : Nat} {O : List Nat} {sb lo2 : Nat} {M2 : Value} {rb2 : Nat → Nat} {S : Nat → Nat → Bool} (h : P3 w W n A ob O sb lo2 M2 rb2 S) (hb : Below (sb + 1) W W') : P3 w W' n A ob O sb lo2 M2 rb2 S := by
  have h1 := h.lo
  have h2 := h.olo
  refine ⟨h.below.trans (hb.mono (by omega)), h.box.below hb (by omega), h.of_.below hb (by omega), h.olo, ?_, h.sbx.below hb (by omega), h.lo, h.rlt, h.mlt⟩
  refine ⟨?_, fun q hq => ⟨(h.sm.row q hq).1, (h.sm.row q hq).2.below hb (by have := h.rlt q hq; omega)⟩, h.sm.apart, h.sm.inj⟩
  exact owns_keep h.sm.own (fun g hg => hb.block g (by have := h.mlt g hg; omega))
/-- The same, with what is done and the lists. -/
structure P5 (w W : World) (n : Nat) (A : Value) (ob : Nat) (O : List Nat) (sb lo2 : Nat) (M2 : Value) (rb2 : Nat → Nat) (S : Nat → Nat → Bool) (db : Nat) (D : List Bool) (v : Value) (vs : List Value) (ls : List (List Int)) : Prop where
  g : P3 w W n A ob O sb lo2 M2 rb2 S
  don : Blk W db 4 (arrB D)
  cl : ClR W (db + 1) v vs ls
  lo : sb < db
theorem P5.step {w W W' : World} {n : Nat} {A : Value} {ob : Nat} {O : List Nat} {sb lo2 : Nat} {M2 : Value} {rb2 : Nat → Nat} {S : Nat → Nat → Bool} {db : Nat} {D : List Bool} {v : Value} {vs : List Value} {ls : List (List Int)} (h : P5 w W n A ob O sb lo2 M2 rb2 S db D v vs ls) (hb : Below W.heap.size W W') : P5 w W' n A ob O sb lo2 M2 rb2 S db D v vs ls :=
  ⟨h.g.step hb, h.don.of_below hb, h.cl.step hb, h.lo⟩
theorem P5.mark {w W : World} {n : Nat} {A : Value} {ob : Nat} {O : List Nat} {sb lo2 : Nat} {M2 : Value} {rb2 : Nat → Nat} {S : Nat → Nat → Bool} {db : Nat} {D : List Bool} {v : Value} {vs : List Value} {ls : List (List Int)} (h : P5 w W n A ob O sb lo2 M2 rb2 S db D v vs ls) (p : Nat) : P5 w (W.setCell ⟨db, p, none⟩ (.bool true)) n A ob O sb lo2 M2 rb2 S db (D.set p true) v vs ls := by
  have h2 := h.lo
  refine ⟨h.g.keep ((Below.refl _ _).setCell (by show sb + 1 ≤ db; omega) _), ?_, ⟨owns_set h.cl.own (by show db < db + 1; omega) _, h.cl.rows.keep (fun i x g hx hg => Below.heap_setCell _ _ _ _ (by have := (h.cl.rows.lt hx hg).1; show g ≠ db; omega))⟩, h.lo⟩
  have := h.don.set p (.bool true)
  rwa [arrB_set] at this
theorem P5.more {w W W' : World} {n : Nat} {A : Value} {ob : Nat} {O : List Nat} {sb lo2 : Nat} {M2 : Value} {rb2 : Nat → Nat} {S : Nat → Nat → Bool} {db : Nat} {D : List Bool} {v v' x : Value} {vs : List Value} {ls : List (List Int)} {l : List Int} {N0 : Nat} {o : Obj} (h : P5 w W n A ob O sb lo2 M2 rb2 S db D v vs ls) (hN : db + 1 ≤ N0) (hvs : ∀ (i : Nat) (y : Value) (g : Nat), vs[i]? = some y → y.ownBlock = some g → g < N0) (hx : W.ownsRow N0 3 1 x l.length (encJ l))
    (hown : W'.ownsRow (db + 1) 29 1 v' (vs.length + 1) (vs ++ [x])) (hg : (W.alloc o).grownBy W' v.ownBlock) : P5 w W' n A ob O sb lo2 M2 rb2 S db D v' (vs ++ [x]) (ls ++ [l]) := by
  have h2 := h.lo
  have hdl := h.don.lt
  have hb : Below (db + 1) W W' := ((Below.refl _ W).alloc (by omega) o).grown hg (by simp; omega) (fun k e => (h.cl.own.lt k e).1)
  refine ⟨h.g.keep (hb.mono (by omega)), h.don.below hb (by omega), h.cl.add (owns_lo hx hN) (fun i y g hy hyg e => ?_) hown hg, h.lo⟩
  have h3 := hvs i y g hy hyg
  have h4 := (hx.lt g e).1
  omega
end Go.Proofs.YtmmgdeoballhpaaDoor
