import Derived.Test.YtdkogbfamdnheaaGreatDoorJ32
import Derived.Test.YtdkogbfamdnheaaGreatDoorJ22
namespace Go.Proofs.YtdkogbfamdnheaaGreatDoor
open Go.RowKit Go.Shelf Sx
set_option maxRecDepth 100000
set_option maxHeartbeats 16000000
set_option linter.unusedSimpArgs false
set_option linter.unusedVariables false
theorem Qrh (l : List (Int × Int)) (x : Int × Int) : Qam (l ++ [x]) = Qam l ++ [.int .i64 x.1, .int .i64 x.2] := by simp [Qam]
structure SmAt (w W : World) (v : Value) (l : List (Int × Int)) : Prop where
 below : Below w.heap.size w W
 own : W.ownsRow w.heap.size 30 2 v l.length (Qam l)
theorem SmAt.more {w W W' : World} {v v' : Value} {l : List (Int × Int)} {x : Int × Int} (h : SmAt w W v l)
  (hown : W'.ownsRow w.heap.size 30 2 v' (l.length + 1) (Qam l ++ [.int .i64 x.1, .int .i64 x.2]))
  (hg : (W.alloc (.cells #[.int .i64 x.1, .int .i64 x.2] 30)).grownBy W' v.ownBlock) : SmAt w W' v' (l ++ [x]) := by
 refine ⟨(h.below.alloc h.below.size _).grown hg (by have := h.below.size; simp; omega) (fun k e => (h.own.lt k e).1), ?_⟩
 rw [Qrh, List.length_append]
 exact hown
theorem Qjf (x : Int) (i : Nat) (w : World) (hx : 0 ≤ x) (hi : (i : Int) ≤ 4611686018427387904) : Calls Tryz.prog 71 #[.int .i64 x, .int .i64 ((i : Nat) : Int)] w fun e w' => e = .returned (.int .i64 (mI (tau i) x)) ∧ w' = w := by
 obtain ⟨k, rfl⟩ : ∃ k : Nat, x = ((k : Nat) : Int) := ⟨x.toNat, oW⟩
 rw [Qbh]
 unfold tau
 by_cases h1 : k = i
 ·subst h1
  rw [if_pos rfl]
  go_enter Tryz.func71, Tryz.ntmps71
  go_wp2_with fail
  go_ret
  exact ⟨by go_num, rfl⟩
 ·have n1 : ¬ (k : Int) = (i : Int) := by omega
  rw [if_neg h1]
  by_cases h2 : k = i + 1
  ·subst h2
   rw [if_pos rfl]
   have n2 : ((i + 1 : Nat) : Int) = (i : Int) + 1 := by omega
   rw [n2] at n1 ⊢
   go_enter Tryz.func71, Tryz.ntmps71
   go_wp2_with fail
   go_ret
   exact ⟨rfl, rfl⟩
  ·have n2 : ¬ (k : Int) = (i : Int) + 1 := by omega
   rw [if_neg h2]
   go_enter Tryz.func71, Tryz.ntmps71
   go_wp2_with fail
   go_ret
   exact ⟨rfl, rfl⟩
theorem Qn7 : ∀ (l : List (Int × Int)) (i : Nat) (x : Int × Int), i < l.length → Qam (l.set i x) = ((Qam l).set (i * 2) (.int .i64 x.1)).set (i * 2 + 1) (.int .i64 x.2)
 | [], i, e, h => by simp at h
 | y :: l, 0, e, _ => by simp [Qam]
 | y :: l, i + 1, e, h => by
  have ih := Qn7 l i e (by simpa using h)
  have c : ∀ (y : Int × Int) l, Qam (y :: l) = .int .i64 y.1 :: .int .i64 y.2 :: Qam l := fun _ _ => rfl
  rw [List.set_cons_succ, c, ih, c, show (i + 1) * 2 + 1 = i * 2 + 1 + 1 + 1 by omega, show (i + 1) * 2 = i * 2 + 1 + 1 by omega]
  simp only [List.set_cons_succ]
def pL (x : Int × Int) : Array Value := #[.int .i64 x.1, .int .i64 x.2]
theorem Qp4 {W : World} {base es n cap : Nat} {l : List (Int × Int)} (h : W.ownsRow base 30 2 (.slice (some ⟨es, 0, none⟩) n cap) n (Qam l)) {i : Nat} (hi : i < l.length) (x : Int × Int) :
  (W.setCells es (i * 2) (pL x).toList).ownsRow base 30 2 (.slice (some ⟨es, 0, none⟩) n cap) n (Qam (l.set i x)) := by
 have hl := h.1
 rcases h.2 with ⟨h2, _⟩ | ⟨g, cap', cur, h2, hb, hg, hc, hm, hs, ht⟩
 ·cases h2
 ·have h3 : es = g ∧ cap = cap' := by simpa using h2
  obtain ⟨rfl, rfl⟩ := h3
  have hB : Blk W es 30 cur := hg
  have k1 := (hB.set (i * 2) (.int .i64 x.1)).set (i * 2 + 1) (.int .i64 x.2)
  refine ⟨by rw [Qd2] at hl ⊢; rw [List.length_set]; exact hl, .inr ⟨es, cap, _, rfl, hb, k1, hc, hm, by simp [hs], ?_⟩⟩
  rw [Qn7 l i x hi, ← ht]
  simp only [Array.toList_setIfInBounds, List.take_set]
theorem Qsl {W : World} {base es n cap : Nat} {xs : List Value} (h : W.ownsRow base 30 2 (.slice (some ⟨es, 0, none⟩) n cap) n xs) {i : Nat} (hi : i < n) : W.there es (i * 2) 2 := by
 rcases h.2 with ⟨h2, _⟩ | ⟨g, cap', cur, h2, hb, hg, hc, hm, hs, ht⟩
 ·cases h2
 ·have h3 : es = g ∧ cap = cap' := by simpa using h2
  obtain ⟨rfl, rfl⟩ := h3
  have hB : Blk W es 30 cur := hg
  intro j hj
  have hlt : i * 2 + j < cur.size := by omega
  refine ⟨?_, hB.frozen _⟩
  rw [hB.cell (j := i * 2 + j) (v := cur[i * 2 + j]) (by simp [hlt])]
  rfl
theorem Qv5 {W : World} {base es n cap : Nat} {l : List (Int × Int)} (h : W.ownsRow base 30 2 (.slice (some ⟨es, 0, none⟩) n cap) n (Qam l)) {i : Nat} {x : Int × Int} (hx : l[i]? = some x) : W.cell? ⟨es, i * 2, none⟩ = some (.int .i64 x.1) ∧ W.cell? ⟨es, i * 2 + 1, none⟩ = some (.int .i64 x.2) := by
 rcases h.2 with ⟨h2, _⟩ | ⟨g, cap', cur, h2, hb, hg, hc, hm, hs, ht⟩
 ·cases h2
 ·have h3 : es = g ∧ cap = cap' := by simpa using h2
  obtain ⟨rfl, rfl⟩ := h3
  have hB : Blk W es 30 cur := hg
  have key : ∀ (j : Nat) (u : Value), (Qam l)[j]? = some u → cur[j]? = some u := by
   intro j u hj
   rw [← ht, List.getElem?_take] at hj
   split at hj
   ·simpa using hj
   ·cases hj
  obtain ⟨e1, e2⟩ := Qiu l i x hx
  exact ⟨hB.cell (key _ _ e1), hB.cell (key _ _ e2)⟩
theorem Qhs {W : World} {b : Nat} : ∀ (vs : List Value) (o k : Nat), k ≠ b → (W.setCells b o vs).heap[k]? = W.heap[k]? := by
 intro vs
 induction vs generalizing W with
 | nil => intro o k _; rfl
 | cons v r ih =>
  intro o k hk
  show ((W.setCell ⟨b, o, none⟩ v).setCells b (o + 1) r).heap[k]? = _
  rw [ih (o + 1) k hk]
  exact Below.heap_setCell _ _ _ _ hk
theorem Qmc : ∀ (out : List (Int × Int)) (x : Int × Int) (j : Nat), j < out.length → ((Qce out x (j + 1)).set j x).set (j + 1) (out.getD j (0, 0)) = Qce out x j
 | [], x, j, h => by simp at h
 | y :: t, x, 0, h => by simp [Qce]
 | y :: t, x, j + 1, h => by
  have ih := Qmc t x j (by simpa using h)
  have c : ∀ k, Qce (y :: t) x (k + 1) = y :: Qce t x k := fun k => by simp [Qce]
  rw [c, c, List.set_cons_succ, List.set_cons_succ, List.getD_cons_succ, ih]
theorem Qfu {out : List (Int × Int)} {x : Int × Int} {j : Nat} (h : j ≤ out.length) : (Qce out x j).length = out.length + 1 := by
 unfold Qce
 rw [List.length_append, List.length_cons, List.length_take, List.length_drop]
 omega
theorem Qtv {out : List (Int × Int)} {x : Int × Int} {j : Nat} (h : j ≤ out.length) : (Qce out x j)[j]? = some x := by
 unfold Qce
 rw [List.getElem?_append_right (by rw [List.length_take]; omega), List.length_take, Nat.min_eq_left h, Nat.sub_self]
 rfl
theorem Qtw {out : List (Int × Int)} {x : Int × Int} {j : Nat} (h : j < out.length) : (Qce out x (j + 1))[j]? = some (out.getD j (0, 0)) := by
 unfold Qce
 rw [List.getElem?_append_left (by rw [List.length_take]; omega), List.getElem?_take, if_pos oW, List.getD_eq_getElem?_getD, List.getElem?_eq_getElem h]
 rfl
theorem SmAt.step {w W W' : World} {v : Value} {l : List (Int × Int)} (h : SmAt w W v l) (hb : Below W.heap.size W W') : SmAt w W' v l := ⟨Qaa h.below h.below.size hb, Qac h.own hb⟩
theorem Qx5 {P : Program} {ops : Array Oper} {o : Oper} {a : Act} {K : Act → World → Prop} {Q : Exit → Act → World → Prop} {E : Prop} (w : World) (hgd : o.guard = none) (s x : Operand) (t : TypeId)
  (ho : o.op = .call { callee := .builtin .append, args := #[s, x], argTypes := #[t, t] }) (v u v' : Value) (w' : World) (hs : a.eval s = v) (hx : a.eval x = u)
  (hr : (Builtin.append_ #[t, t] o.type #[v, u]).run P w = .ok v' w') (h : K (a.put o.dst v') w') :
  if Region.wanted o (yielded ops a.tmps) = true then Oper.wp P o a w K Q else E := by
 have hw : Region.wanted o (yielded ops a.tmps) = true := by simp [Region.wanted, hgd]
 rw [if_pos hw]
 unfold Oper.wp execOp
 simp only [ho, resolve, invoke, builtin, Sem.run_bind, Sem.run_pure, Result.andThen_ok, List.map_toArray, List.map_cons, List.map_nil, hs, hx, hr]
 exact h
structure TuJ (w wr : World) (e : Bool) (out : List (Int × Int)) (y : Int × Int) (v : Value) (j : Nat) : Prop where
 at_ : SmAt w wr v (Qce out y j)
 le : j ≤ out.length
 pos : Qd5 e out y j = Qd5 e out y out.length
theorem Qmd (vl : Value) (l : List (Int × Int)) (i : Nat) (e : Bool) (w : World) (hl : PArg w vl l) (hb : l.length * 16 ≤ 140737488355328) (hn : ∀ x ∈ l, 0 ≤ x.1 ∧ 0 ≤ x.2) (hi : (i : Int) ≤ 4611686018427387904) :
  Calls Tryz.prog 70 #[vl, .int .i64 ((i : Nat) : Int), .bool e] w fun r w' => ∃ v, r = .returned v ∧ w'.ownsRow w.heap.size 30 2 v (tdL e (mP (tau i)) l).length (Qam (tdL e (mP (tau i)) l)) ∧ Below w.heap.size w w' := by
 obtain ⟨i0, hi0, hz0, hz1, hz2⟩ := info_parts Tryz.infopair
 have HL := Qa hl
 have HN := Qa hn
 have HI := Qa hi
 obtain ⟨p, c, rfl, -⟩ := Qae hl
 clear hl hn hi
 have hA : SmAt w w (.slice none 0 0) [] := ⟨Below.refl _ _, World.ownsRow_nil _ _ _ _⟩
 go_enter Tryz.func70, Tryz.ntmps70
 go_wp2_with fail
 go_loopw [7, 8] (fun v i8 wr => ∃ k xs, k ≤ l.length ∧ i8 = .int .i64 ((k : Nat) : Int) ∧ Hid (SmAt w wr v xs) ∧ Hid (xs = tdL e (mP (tau i)) (l.take k)) ∧ Hid (xs.length = k)) (fun _ i8 _ => l.length - (intOf i8).toNat)
 case atStart => exact ⟨0, [], oW, rfl, hA, rfl, rfl⟩
 case round =>
  clear hA
  obtain ⟨k, xs, hkl2, rfl, HA, HX, HXL⟩ := hrel
  generalize hwq : wr = wa at *
  clear hwq
  by_cases hlt : k < l.length
  ·obtain ⟨x, hx⟩ : ∃ x, l[k]? = some x := ⟨_, List.getElem?_eq_getElem hlt⟩
   obtain ⟨p2, c2, e2, hat0, _⟩ := Qae HL.out
   obtain ⟨s, o, rfl, hat⟩ := hat0 oW
   injection e2 with e3 e4 e5
   subst e3
   have HKP : Hid (∀ W, Below w.heap.size w W → W.cell? ⟨s, o + k * 2, none⟩ = some (.int .i64 x.1) ∧ W.cell? ⟨s, o + k * 2 + 1, none⟩ = some (.int .i64 x.2)) := fun W h => ⟨(h.cell (p := ⟨s, o + k * 2, none⟩) hat.lt).trans (hat.fst k _ hx), (h.cell (p := ⟨s, o + k * 2 + 1, none⟩) hat.lt).trans (hat.snd k _ hx)⟩
   obtain ⟨x0, x1⟩ := HKP.out _ HA.out.below
   have K0 : (0 : Int) ≤ (k : Int) := by omega
   have K1 : (k : Int) < (l.length : Int) := by omega
   have HXN := Qa (HN.out x (List.mem_of_getElem? hx))
   have HTK : Hid (l.take (k + 1) = l.take k ++ [x]) := by rw [Hid, List.take_add_one, hx]; rfl
   clear hat hat0 hx e4 e5
   obtain ⟨qa, ca, hv⟩ := Qag HA.out.own
   rw [HXL.out] at hv
   subst hv
   go_upto_region 5 with fail
   go_cut [7] from 12 to 93 (fun v7 wx => ∃ q c, v7 = .slice q (k + 1) c ∧ Hid (SmAt w wx v7 (xs ++ [mP (tau i) x])))
   case first =>
    have hsz := HA.out.below.size
    have HO := HA.out.own
    rw [HXL.out] at HO
    obtain ⟨v', w4, hap, hown4, hg4, _, _⟩ := run_append_own_at (P := Tryz.prog) (wa.alloc (.cells #[.int .i64 (mI (tau i) x.1), .int .i64 (mI (tau i) x.2)] 30)).drew w.heap.size 24 24 30 i0 (.agg #[.int .i64 0, .int .i64 0]) 2 16 Tryz.underlying24 hi0 hz0 hz1 hz2 rfl dW (.slice qa k ca) k (Qam xs) (HO.alloc _).drew ⟨wa.heap.size, 0, none⟩ 1 1 [.int .i64 (mI (tau i) x.1), .int .i64 (mI (tau i) x.2)] rfl (Qqj wa _ _ _) (by simp [Value.oneCell']) (by unfold maxLen; omega) oW (by show w.heap.size ≤ (wa.alloc _).heap.size; simp; omega)
    have HM : Hid (∃ q c, v' = .slice q (k + 1) c ∧ Hid (SmAt w w4 v' (xs ++ [mP (tau i) x]))) := by
     obtain ⟨q, c, rfl⟩ := Qag hown4
     refine ⟨q, c, rfl, ?_⟩
     exact HA.out.more (x := mP (tau i) x) (by rw [HXL.out]; exact hown4) ⟨hg4.os, hg4.tape, hg4.output, hg4.size, hg4.block⟩
    have hB4 : Below w.heap.size w w4 := by
     obtain ⟨q, c, _, h⟩ := HM.out
     exact h.out.below
    have HK4 := Qa (HKP.out _ hB4)
    have HKa := Qa (HKP.out _ ((HA.out.below.alloc hsz (.cells #[.int .i64 (mI (tau i) x.1), .int .i64 (mI (tau i) x.2)] 30)).drew))
    clear hown4 hg4 HO hB4
    go_region_held3 (fun W => W.cell? ⟨s, o + k * 2, none⟩ = some (.int .i64 x.1) ∧ W.cell? ⟨s, o + k * 2 + 1, none⟩ = some (.int .i64 x.2)) (first | assumption | exact ⟨x0, x1⟩ | exact HKa.out | exact HK4.out) (first | (go_at_call 71; refine (Qjf _ i _ ?hge HI.out).mono ?_; (case hge => first | exact HXN.out.1 | exact HXN.out.2); rintro e w2 ⟨rfl, rfl⟩) | (refine Qx5 _ rfl (.tmp 18) (.tmp 34) 24 rfl (.slice qa k ca) (.slice (some ⟨wa.heap.size, 0, none⟩) 1 1) v' w4 (by simp [Act.eval, Act.put]) (by simp [Act.eval, Act.put]) hap ?_))
    all_goals (go_wp2_with fail; go_meet; exact HM.out)
   case rest =>
    obtain ⟨q, c9, rfl, HT⟩ := hcut
    generalize hwq : wc = wb at *
    clear hwq x0 x1 HKP HA
    obtain ⟨y, hy⟩ : ∃ y, mP (tau i) x = y := ⟨_, rfl⟩
    rw [hy] at HT
    have HTJ : Hid (TuJ w wb e xs y (.slice q (k + 1) c9) k) := ⟨by unfold Qce; rw [List.take_of_length_le (by rw [HXL.out]; exact Nat.le_refl _), List.drop_of_length_le (by rw [HXL.out]; exact Nat.le_refl _)]; exact HT.out, by rw [HXL.out]; exact Nat.le_refl _, by rw [HXL.out]⟩
    obtain ⟨es, c9, hv⟩ := ownsRow_succ (k := k) (by have := HTJ.out.at_.own; rw [Qfu HTJ.out.le, HXL.out] at this; exact this)
    obtain ⟨rfl, -, rfl⟩ := Value.slice.inj hv
    clear hv
    have HNX : Hid (Qfd e xs y = tdL e (mP (tau i)) (l.take (k + 1))) := by rw [Hid, HTK.out, Qi0, ← HX.out, hy]
    have hk1 : ((k + 1 : Nat) : Int) - 1 = (k : Int) := by omega
    have hk2 : IntKind.i64.wrap (k : Int) = (k : Int) := Qch oW
    clear hy HT HX HTK HXN
    go_wp2_with fail
    go_loopw [9] (fun j9 wr => ∃ (j : Nat), j9 = .int .i64 ((j : Nat) : Int) ∧ j ≤ k ∧ Hid (TuJ w wr e xs y (.slice (some ⟨es, 0, none⟩) (k + 1) c9) j)) (fun j9 _ => (intOf j9).toNat)
    case atStart => exact ⟨k, rfl, Nat.le_refl _, HTJ.out⟩
    case round =>
     clear HTJ
     obtain ⟨j, rfl, hjk, HJ⟩ := hrel
     generalize hwq : wr = wd at *
     clear hwq
     by_cases hj0 : 0 < j
     ·obtain ⟨m, rfl⟩ : ∃ m, j = m + 1 := ⟨j - 1, oW⟩
      have HO : Hid (wd.ownsRow w.heap.size 30 2 (.slice (some ⟨es, 0, none⟩) (k + 1) c9) (k + 1) (Qam (Qce xs y (m + 1)))) := by
       have := HJ.out.at_.own
       rw [Qfu HJ.out.le, HXL.out] at this
       exact this
      have hmx : m < xs.length := by have := HXL.out; omega
      obtain ⟨p0, p1⟩ := Qv5 HO.out (Qtw hmx)
      obtain ⟨y0, y1⟩ := Qv5 HO.out (Qtv HJ.out.le)
      have HES : Hid (es < wd.heap.size ∧ w.heap.size ≤ es) := by
       rcases HO.out.2 with ⟨h2, _⟩ | ⟨g, cap', cur, h2, hb2, hg, _⟩
       ·cases h2
       ·have := Option.some.inj (Value.slice.inj h2).1
        injection this with e4 _
        subst e4
        exact ⟨(Array.getElem?_eq_some_iff.1 hg).1, hb2⟩
      obtain ⟨px, hpx⟩ : ∃ z, xs.getD m (0, 0) = z := ⟨_, rfl⟩
      rw [hpx] at p0 p1
      have HPX := Qa hpx
      clear hpx
      have hm1 : ((m + 1 : Nat) : Int) - 1 = (m : Int) := by omega
      have hm2 : IntKind.i64.wrap (m : Int) = (m : Int) := Qch oW
      have M0 : (0 : Int) ≤ (m : Int) := by omega
      have M1 : (m : Int) < ((k + 1 : Nat) : Int) := by omega
      have N0 : (0 : Int) ≤ ((m + 1 : Nat) : Int) := by omega
      have N1 : ((m + 1 : Nat) : Int) < ((k + 1 : Nat) : Int) := by omega
      have hz := Blk.new wd 30 #[.int .i64 0, .int .i64 0]
      have hBe : Below wd.heap.size wd ((wd.alloc (.cells #[.int .i64 0, .int .i64 0] 30)).setRow wd.heap.size (pL px)) := ((Below.refl wd.heap.size wd).alloc nW _).trans (Qan _ nW)
      have HZ1 := Qa (hz.setRow' (pL px))
      go_upto_region 10 with (first | refine wpList_store_row rfl 30 _ _ rfl wd.heap.size (pL px) rfl rfl 30 #[.int .i64 0, .int .i64 0] hz kW rfl kW ?_)
      try simp only [Act.put]
      have z0 := (hBe.cell (p := ⟨es, (m + 1) * 2, none⟩) HES.out.1).trans y0
      have z1 := (hBe.cell (p := ⟨es, (m + 1) * 2 + 1, none⟩) HES.out.1).trans y1
      have HBE := Qa hBe
      clear hz p0 p1 y0 y1 hBe
      generalize (wd.alloc (.cells #[.int .i64 0, .int .i64 0] 30)).setRow wd.heap.size (pL px) = we at *
      have hz := Blk.new we 30 #[.int .i64 0, .int .i64 0]
      have hBf : Below we.heap.size we ((we.alloc (.cells #[.int .i64 0, .int .i64 0] 30)).setRow we.heap.size (pL y)) := ((Below.refl we.heap.size we).alloc nW _).trans (Qan _ nW)
      have HZ2 := Qa (hz.setRow' (pL y))
      go_upto_region 11 with (first | refine wpList_store_row rfl 30 _ _ rfl we.heap.size (pL y) rfl rfl 30 #[.int .i64 0, .int .i64 0] hz kW rfl kW ?_)
      try simp only [Act.put]
      have HZ3 := Qa (HZ1.out.of_below hBf)
      have HBF : Hid (Below wd.heap.size wd ((we.alloc (.cells #[.int .i64 0, .int .i64 0] 30)).setRow we.heap.size (pL y))) := Qaa HBE.out HBE.out.size hBf
      have HB12 : Hid (wd.heap.size < we.heap.size) := HZ1.out.lt
      clear hz z0 z1 hBf HZ1 HBE
      generalize (we.alloc (.cells #[.int .i64 0, .int .i64 0] 30)).setRow we.heap.size (pL y) = wf at *
      generalize we.heap.size = B2 at *
      have HJf := Qa (HJ.out.at_.step HBF.out)
      have HOf := Qa (Qac HO.out HBF.out)
      clear HO HBF
      obtain ⟨HE1, HE2⟩ := HES.out
      have HEN := Qa HE1
      have HEW := Qa HE2
      clear HE1 HE2 HES
      generalize wd.heap.size = B1 at *
      go_cut [84] from 39 to 93 (fun v84 wx => v84 = .bool (ltE e px y) ∧ wx = wf)
      case first =>
       have d0 : wf.cell? ⟨B1, 0, none⟩ = some (.int .i64 px.1) := HZ3.out.cell rfl
       have d1 : wf.cell? ⟨B1, 1, none⟩ = some (.int .i64 px.2) := HZ3.out.cell rfl
       have e0 : wf.cell? ⟨B2, 0, none⟩ = some (.int .i64 y.1) := HZ2.out.cell rfl
       have e1 : wf.cell? ⟨B2, 1, none⟩ = some (.int .i64 y.2) := HZ2.out.cell rfl
       clear HZ2 HZ3 HJf HOf HJ HNX HPX
       cases e
       ·by_cases h1 : px.1 < y.1
        ·have hq : Hid (ltE false px y = true) := by rw [Hid]; simp [ltE, h1]
         go_wp2_with fail
         go_meet
         exact ⟨by rw [hq.out], rfl⟩
        ·by_cases h2 : px.1 = y.1
         ·by_cases h3 : px.2 < y.2
          ·have hq : Hid (ltE false px y = true) := by rw [Hid]; simp [ltE, h2, h3]
           go_wp2_with fail
           go_meet
           exact ⟨by rw [hq.out], rfl⟩
          ·have hq : Hid (ltE false px y = false) := by rw [Hid]; simp [ltE, h2]; omega
           go_wp2_with fail
           go_meet
           exact ⟨by rw [hq.out], rfl⟩
         ·have hq : Hid (ltE false px y = false) := by rw [Hid]; simp [ltE, h2]; omega
          go_wp2_with fail
          go_meet
          exact ⟨by rw [hq.out], rfl⟩
       ·by_cases h3 : px.2 < y.2
        ·have hq : Hid (ltE true px y = true) := by rw [Hid]; simp [ltE, h3]
         go_wp2_with fail
         go_meet
         exact ⟨by rw [hq.out], rfl⟩
        ·have hq : Hid (ltE true px y = false) := by rw [Hid]; simp [ltE]; omega
         go_wp2_with fail
         go_meet
         exact ⟨by rw [hq.out], rfl⟩
      case rest =>
       obtain ⟨rfl, rfl⟩ := hcut
       obtain ⟨r, hr⟩ : ∃ r, ltE e px y = r := ⟨_, rfl⟩
       rw [hr]
       have HR := Qa hr
       clear hr
       cases r
       ·have hb1 : Hid (B1 ≠ es) := by rw [Hid]; have := HEN.out; omega
        have HO1 := Qa (Qp4 HOf.out (i := m) (by rw [Qfu HJ.out.le]; omega) y)
        have HO2 := Qa (Qp4 HO1.out (i := m + 1) (by rw [List.length_set, Qfu HJ.out.le]; omega) px)
        have HT1 := Qa (Qsl HOf.out (i := m) oW)
        have HT2 := Qa (Qsl HO1.out (i := m + 1) oW)
        have HZ4 : Hid (Blk (wc.setCells es (m * 2) (pL y).toList) B1 30 (pL px)) := (Qhs _ _ _ hb1.out).trans HZ3.out
        go_upto_region 13 with (first | refine wpList_load_row rfl 30 _ rfl B2 rfl 30 (pL y) (0, 0) _ HZ2.out Tryz.underlying30 rfl kW ?_ | (refine wpList_store_mid rfl 30 _ _ rfl es (m * 2) (pL y) rfl rfl HT1.out kW kW ?_; generalize hwg : wc.setCells es (m * 2) (pL y).toList = wg at *))
        have HWG := Qa hwg
        clear hwg
        go_wp2_with (first | refine wpList_load_row rfl 30 _ rfl B1 rfl 30 (pL px) (0, 0) _ HZ4.out Tryz.underlying30 rfl kW ?_ | (refine wpList_store_mid rfl 30 _ _ rfl es ((m + 1) * 2) (pL px) rfl rfl HT2.out kW kW ?_; generalize hwh : wg.setCells es ((m + 1) * 2) (pL px).toList = wh at *))
        refine ⟨⟨m, by go_num, oW, ?_⟩, by simp [intOf]⟩
        have hms : m < xs.length := by have := HXL.out; omega
        have hst := Qmc xs y m hms
        rw [HPX.out] at hst
        have ho := HO2.out
        rw [hst] at ho
        refine ⟨⟨?_, ?_⟩, oW, ?_⟩
        ·rw [← hwh, ← HWG.out]
         have hle : w.heap.size ≤ es := HEW.out
         exact (((HJf.out.below.setCell (p := ⟨es, m * 2, none⟩) hle _).setCell (p := ⟨es, m * 2 + 1, none⟩) hle _).setCell (p := ⟨es, (m + 1) * 2, none⟩) hle _).setCell (p := ⟨es, (m + 1) * 2 + 1, none⟩) hle _
        ·rw [Qfu oW, HXL.out]
         exact ho
        ·have := HJ.out.pos
         rw [← this]
         conv => rhs; unfold Qd5
         rw [HPX.out, HR.out]
         rfl
       ·go_wp2_with fail
        refine ⟨⟨k + 1, Qfd e xs y, oW, by go_num, ?_, HNX, ?_⟩, by simp [intOf]; omega⟩
        ·have hp : Qd5 e xs y xs.length = m + 1 := by
          rw [← HJ.out.pos]
          unfold Qd5
          rw [HPX.out, HR.out]
          rfl
         unfold Qfd
         rw [hp]
         exact HJf.out
        ·rw [Hid, Qll, HXL.out]
     ·obtain rfl : j = 0 := by omega
      go_wp2_with fail
      refine ⟨⟨k + 1, Qfd e xs y, oW, by go_num, ?_, HNX, ?_⟩, by simp [intOf]; omega⟩
      ·have hp : Qd5 e xs y xs.length = 0 := by rw [← HJ.out.pos]; rfl
       unfold Qfd
       rw [hp]
       exact HJ.out.at_
      ·rw [Hid, Qll, HXL.out]
  ·obtain rfl : k = l.length := by omega
   have ho := HA.out
   have hx := HX.out
   rw [List.take_length] at hx
   clear HX
   subst hx
   go_wp2_with fail
   go_ret
   exact ⟨_, rfl, ho.own, ho.below⟩
theorem Qcb {W : World} {base b j : Nat} {e t : TypeId} {size : Nat} {v u : Value} {n : Nat} {xs : List Value} {cs : Array Value} (h : W.ownsRow base e size v n xs) (hb : Blk W b t cs) (ht : e ≠ t) : (W.setCell ⟨b, j, none⟩ u).ownsRow base e size v n xs :=
 Qcv h fun g hv => by
  obtain ⟨cur, hc⟩ := Qcn h hv
  exact Below.heap_setCell W ⟨b, j, none⟩ u g (by rintro rfl; exact ht (Qex hc hb))
def Qlh (e : Ev) : Array Value := #[.int .i64 e.t, .int .i64 e.k, .int .i64 e.l, .int .u64 e.v, .int .i64 e.m]
theorem Qix {W : World} {base b o : Nat} {e t : TypeId} {size : Nat} {v : Value} {n : Nat} {xs vs : List Value} {cs : Array Value} (h : W.ownsRow base e size v n xs) (hb : Blk W b t cs) (ht : e ≠ t) : (W.setCells b o vs).ownsRow base e size v n xs :=
 Qcv h fun g hv => by
  obtain ⟨cur, hc⟩ := Qcn h hv
  exact Qhs _ _ _ (by rintro rfl; exact ht (Qex hc hb))
theorem Qme : ∀ (l : List Ev) (i : Nat) (e : Ev), i < l.length → Qay (l.set i e) = (((((Qay l).set (i * 5) (.int .i64 e.t)).set (i * 5 + 1) (.int .i64 e.k)).set (i * 5 + 2) (.int .i64 e.l)).set (i * 5 + 3) (.int .u64 e.v)).set (i * 5 + 4) (.int .i64 e.m)
 | [], i, e, h => by simp at h
 | x :: l, 0, e, _ => by simp [Qe7]
 | x :: l, i + 1, e, h => by
  have ih := Qme l i e (by simpa using h)
  rw [List.set_cons_succ, Qe7, ih, Qe7]
  have e5 : ∀ k, (i + 1) * 5 + k = i * 5 + k + 5 := fun k => by omega
  have e0 : (i + 1) * 5 = i * 5 + 5 := by omega
  rw [e5 1, e5 2, e5 3, e5 4, e0]
  simp only [List.set_cons_succ]
theorem Qx6 {W : World} {base es n cap : Nat} {l : List Ev} (h : W.ownsRow base 34 5 (.slice (some ⟨es, 0, none⟩) n cap) n (Qay l)) {i : Nat} (hi : i < l.length) (e : Ev) :
  (W.setCells es (i * 5) (Qlh e).toList).ownsRow base 34 5 (.slice (some ⟨es, 0, none⟩) n cap) n (Qay (l.set i e)) := by
 have hl := h.1
 rcases h.2 with ⟨h2, _⟩ | ⟨g, cap', cur, h2, hb, hg, hc, hm, hs, ht⟩
 ·cases h2
 ·have h3 : es = g ∧ cap = cap' := by simpa using h2
  obtain ⟨rfl, rfl⟩ := h3
  have hB : Blk W es 34 cur := hg
  have k1 := ((((hB.set (i * 5) (.int .i64 e.t)).set (i * 5 + 1) (.int .i64 e.k)).set (i * 5 + 2) (.int .i64 e.l)).set (i * 5 + 3) (.int .u64 e.v)).set (i * 5 + 4) (.int .i64 e.m)
  refine ⟨by rw [Qcm] at hl ⊢; rw [List.length_set]; exact hl, .inr ⟨es, cap, _, rfl, hb, k1, hc, hm, by simp [hs], ?_⟩⟩
  rw [Qme l i e hi, ← ht]
  simp only [Array.toList_setIfInBounds, List.take_set]
theorem Qm7 {W : World} {base es n cap : Nat} {xs : List Value} (h : W.ownsRow base 34 5 (.slice (some ⟨es, 0, none⟩) n cap) n xs) {i : Nat} (hi : i < n) : W.there es (i * 5) 5 := by
 rcases h.2 with ⟨h2, _⟩ | ⟨g, cap', cur, h2, hb, hg, hc, hm, hs, ht⟩
 ·cases h2
 ·have h3 : es = g ∧ cap = cap' := by simpa using h2
  obtain ⟨rfl, rfl⟩ := h3
  have hB : Blk W es 34 cur := hg
  intro j hj
  have hlt : i * 5 + j < cur.size := by omega
  refine ⟨?_, hB.frozen _⟩
  rw [hB.cell (j := i * 5 + j) (v := cur[i * 5 + j]) (by simp [hlt])]
  rfl
theorem OwnG.gr {w : World} {base : Nat} {U : GrV} {g : Gr} (h : OwnG w base U g) (hb : GrB g) (he : g.evs.length * 40 ≤ 140737488355328) : GrR w U g := by
 obtain ⟨B, vs, h1, h2⟩ := h.co
 obtain ⟨b1, b2, b3, b4, b5, b6, b7⟩ := hb
 exact ⟨Qgc h.ev he, Qef h.rf b1, h2.coarg oW (fun i l hl => by have := b7 l (List.mem_of_getElem? hl); omega), Qef h.rmw b2, Qef h.addr b3, Qef h.dat b4, Qef h.ctrl b5⟩
theorem OwnG.lo {w : World} {base b' : Nat} {U : GrV} {g : Gr} (h : OwnG w base U g) (hb : b' ≤ base) : OwnG w b' U g := by
 obtain ⟨B, vs, h1, h2⟩ := h.co
 exact ⟨Qa6 h.ev hb, Qa6 h.rf hb, ⟨B, vs, Nat.le_trans hb h1, h2⟩, Qa6 h.rmw hb, Qa6 h.addr hb, Qa6 h.dat hb, Qa6 h.ctrl hb⟩
theorem OwnG.elder {w : World} {base b : Nat} {U : GrV} {g : Gr} (h : OwnG w base U g) (hb : b < base) (cs : Array Value) : OwnG (w.setRow b cs) base U g := by
 have key : ∀ {B2 : Nat} {e : TypeId} {size : Nat} {v : Value} {n : Nat} {xs : List Value}, base ≤ B2 → w.ownsRow B2 e size v n xs → (w.setRow b cs).ownsRow B2 e size v n xs := fun hB ho => Qcv ho (fun g' e => setRow_other w b g' _ (by have := (ho.lt g' e).1; omega))
 obtain ⟨B, vs, h1, h2⟩ := h.co
 exact ⟨key nW h.ev, key nW h.rf, ⟨B, vs, h1, key h1 h2.own, h2.rows.len, fun k x l hx hl => key h1 (h2.rows.row k x l hx hl), h2.rows.apart⟩, key nW h.rmw, key nW h.addr, key nW h.dat, key nW h.ctrl⟩
theorem OwnG.putE {w : World} {base es n cap : Nat} {U : GrV} {g : Gr} (h : OwnG w base U g) (hU : U.ev = .slice (some ⟨es, 0, none⟩) n cap) {i : Nat} (hi : i < g.evs.length) (e : Ev) : OwnG (w.setCells es (i * 5) (Qlh e).toList) base U { g with evs := g.evs.set i e } := by
 have hE := h.ev
 obtain ⟨cur, hB⟩ := Qcn hE (g := es) (by rw [hU]; rfl)
 obtain ⟨B, vs, h1, h2⟩ := h.co
 refine ⟨?_, Qix h.rf hB dW, ⟨B, vs, h1, Qix h2.own hB dW, h2.rows.len, fun k x l hx hl => Qix (h2.rows.row k x l hx hl) hB dW, h2.rows.apart⟩, Qix h.rmw hB dW, Qix h.addr hB dW, Qix h.dat hB dW, Qix h.ctrl hB dW⟩
 obtain ⟨q, c, hv⟩ := Qag hE
 rw [hU] at hv
 obtain ⟨rfl, rfl, rfl⟩ := Value.slice.inj hv
 rw [hU] at hE ⊢
 dsimp only
 rw [List.length_set]
 exact Qx6 hE hi e
theorem OwnG.box {w : World} {base b j : Nat} {U : GrV} {g : Gr} {cs : Array Value} {u : Value} (h : OwnG w base U g) (hb : Blk w b 27 cs) : OwnG (w.setCell ⟨b, j, none⟩ u) base U g := by
 obtain ⟨B, vs, h1, h2⟩ := h.co
 exact ⟨Qcb h.ev hb dW, Qcb h.rf hb dW, ⟨B, vs, h1, Qcb h2.own hb dW, h2.rows.len, fun k x l hx hl => Qcb (h2.rows.row k x l hx hl) hb dW, h2.rows.apart⟩, Qcb h.rmw hb dW, Qcb h.addr hb dW, Qcb h.dat hb dW, Qcb h.ctrl hb dW⟩
theorem Qp5 : ∀ (l : List Int) (j : Nat) (u : Int), Qaf (l.set j u) = (Qaf l).set j (.int .i64 u) := fun l j u => by unfold Qaf; rw [List.map_set]
theorem Qx7 {W : World} {base es n cap : Nat} {l : List Int} (h : W.ownsRow base 3 1 (.slice (some ⟨es, 0, none⟩) n cap) n (Qaf l)) (j : Nat) (u : Int) :
  (W.setCell ⟨es, j, none⟩ (.int .i64 u)).ownsRow base 3 1 (.slice (some ⟨es, 0, none⟩) n cap) n (Qaf (l.set j u)) := by
 have hl := h.1
 rcases h.2 with ⟨h2, _⟩ | ⟨g, cap', cur, h2, hb, hg, hc, hm, hs, ht⟩
 ·cases h2
 ·have h3 : es = g ∧ cap = cap' := by simpa using h2
  obtain ⟨rfl, rfl⟩ := h3
  have hB : Blk W es 3 cur := hg
  refine ⟨by rw [Qp5, List.length_set]; exact hl, .inr ⟨es, cap, _, rfl, hb, hB.set j (.int .i64 u), hc, hm, by simp [hs], ?_⟩⟩
  rw [Qp5, ← ht]
  simp only [Array.toList_setIfInBounds, List.take_set]
theorem ClR.put {W : World} {base s n cap c j : Nat} {v : Value} {vs : List Value} {ls : List (List Int)} {l : List Int} (h : ClR W base v vs ls) (hx : vs[c]? = some (.slice (some ⟨s, 0, none⟩) n cap)) (hl : ls[c]? = some l) (u : Int) : ClR (W.setCell ⟨s, j, none⟩ (.int .i64 u)) base v vs (ls.set c (l.set j u)) := by
 have hr := h.rows.row c _ l hx hl
 obtain ⟨cur, hB⟩ := Qcn hr (g := s) rfl
 have hlc : c < ls.length := (List.getElem?_eq_some_iff.1 hl).1
 refine ⟨Qcb h.own hB dW, by rw [List.length_set]; exact h.rows.len, fun i x l' hx' hl' => ?_, h.rows.apart⟩
 rw [List.getElem?_set] at hl'
 by_cases e : c = i
 ·subst e
  rw [if_pos rfl, if_pos hlc] at hl'
  obtain rfl := Option.some.inj hl'
  rw [hx] at hx'
  obtain rfl := Option.some.inj hx'
  obtain ⟨q, c2, hv⟩ := Qag hr
  obtain ⟨rfl, rfl, rfl⟩ := Value.slice.inj hv
  rw [List.length_set]
  exact Qx7 hr j u
 ·rw [if_neg e] at hl'
  exact Qcv (h.rows.row i x l' hx' hl') fun g hg => Below.heap_setCell W ⟨s, j, none⟩ _ g (by rintro rfl; exact e (h.rows.apart c i _ x _ hx hx' rfl hg))
theorem Qou {P : Program} {op : Oper} {a : Act} {w : World} {K : Act → World → Prop} {Q : Exit → Act → World → Prop} (ty : TypeId) (x y : Operand) (ho : op.op = .store ty x y)
  (b o : Nat) (v : Value) (hx : a.eval x = .pointer (some ⟨b, o, none⟩)) (hy : a.eval y = v)
  (ht : w.there b o 1) (hi : (P.info? ty).map (·.size) = some 1) (h1 : v.oneCell' = true)
  (h : K (a.put op.dst undef) (w.setCell ⟨b, o, none⟩ v)) : op.wp P a w K Q := by
 have hr : (storeVar ty ⟨b, o, none⟩ v).run P w = .ok () (w.setCell ⟨b, o, none⟩ v) := by
  have := run_storeCells_cells (P := P) b o [v] 0 w (fun j hj => by simpa using (ht j (by simpa using hj)).1) (fun j hj => by simpa using (ht j (by simpa using hj)).2) (fun u hu => by simp at hu; subst hu; exact h1)
  have hc : v.cells = #[v] := by cases v <;> first | rfl | cases h1
  cases hq : P.info? ty with
  | none => simp [hq] at hi
  | some i =>
   have hs : i.size = 1 := by simpa [hq] using hi
   simp only [Nat.add_zero] at this
   simp [storeVar, sizeOf, typeInfo, hq, hc, hs, this, World.setCells]
 unfold Oper.wp execOp
 simp only [ho, hx, hy, Instr.storeAt, Instr.sureAddr, Sem.run_bind, Sem.run_pure, Result.andThen_ok, hr]
 exact h
theorem Qz0 {W : World} {base es n cap : Nat} {xs : List Value} (h : W.ownsRow base 3 1 (.slice (some ⟨es, 0, none⟩) n cap) n xs) {i : Nat} (hi : i < n) : W.there es i 1 := by
 rcases h.2 with ⟨h2, _⟩ | ⟨g, cap', cur, h2, hb, hg, hc, hm, hs, ht⟩
 ·cases h2
 ·have h3 : es = g ∧ cap = cap' := by simpa using h2
  obtain ⟨rfl, rfl⟩ := h3
  have hB : Blk W es 3 cur := hg
  intro j hj
  have hlt : i + j < cur.size := by omega
  refine ⟨?_, hB.frozen _⟩
  rw [hB.cell (j := i + j) (v := cur[i + j]) (by simp [hlt])]
  rfl
theorem Qz1 {W : World} {base es n cap : Nat} {l : List Int} (h : W.ownsRow base 3 1 (.slice (some ⟨es, 0, none⟩) n cap) n (Qaf l)) {i : Nat} {x : Int} (hx : l[i]? = some x) : W.cell? ⟨es, i, none⟩ = some (.int .i64 x) := by
 rcases h.2 with ⟨h2, _⟩ | ⟨g, cap', cur, h2, hb, hg, hc, hm, hs, ht⟩
 ·cases h2
 ·have h3 : es = g ∧ cap = cap' := by simpa using h2
  obtain ⟨rfl, rfl⟩ := h3
  have hB : Blk W es 3 cur := hg
  apply hB.cell
  have h5 : (Qaf l)[i]? = some (.int .i64 x) := by unfold Qaf; rw [List.getElem?_map, hx]; rfl
  rw [← ht, List.getElem?_take] at h5
  split at h5
  ·simpa using h5
  ·cases h5
theorem OwnG.row {w : World} {base : Nat} {U : GrV} {g : Gr} {q : Option Addr} {m : Nat} (h : OwnG w base U g) {c n : Nat} {l : List Int} (hU : U.co = .slice q n m) (hl : g.co[c]? = some l) :
  ∃ cs qx cx, q = some ⟨cs, 0, none⟩ ∧ w.cell? ⟨cs, c, none⟩ = some (.slice qx l.length cx) ∧ (0 < l.length → ∃ s, qx = some ⟨s, 0, none⟩ ∧ base ≤ s ∧ cs ≠ s ∧ (∃ cur, Blk w s 3 cur) ∧ w.there s 0 l.length ∧ (∀ (j : Nat) (x : Int), l[j]? = some x → w.cell? ⟨s, j, none⟩ = some (.int .i64 x)) ∧ ∀ (j : Nat) (u : Int), OwnG (w.setCell ⟨s, j, none⟩ (.int .i64 u)) base U { g with co := g.co.set c (l.set j u) }) := by
 obtain ⟨B, vs, h1, h2⟩ := h.co
 have hc : c < g.co.length := (List.getElem?_eq_some_iff.1 hl).1
 have hlen := h2.rows.len
 obtain ⟨cs, cap, e, hs, hcell⟩ := Qgj h2.own rfl oW
 have hv3 := e
 rw [hU] at e
 obtain ⟨rfl, rfl, rfl⟩ := Value.slice.inj e
 obtain ⟨x, hx⟩ : ∃ x, vs[c]? = some x := ⟨_, List.getElem?_eq_getElem oW⟩
 have hr := h2.rows.row c x l hx hl
 obtain ⟨qx, cx, rfl⟩ := Qag hr
 refine ⟨cs, qx, cx, rfl, hcell c _ hx, fun h0 => ?_⟩
 obtain ⟨s, rfl⟩ : ∃ s, qx = some ⟨s, 0, none⟩ := by
  rcases hr.2 with ⟨k, _⟩ | ⟨es, cap, cur, k, _⟩
  ·have := (Value.slice.inj k).2.1; omega
  ·exact ⟨es, (Value.slice.inj k).1⟩
 have hsb := (hr.lt s rfl).1
 refine ⟨s, rfl, oW, fun e => h2.ne hx (g := s) rfl (by rw [hv3, ← e]; rfl), Qcn hr rfl, fun j hj => ?_, fun j x hx => Qz1 hr hx, fun j u => ?_⟩
 ·have := Qz0 hr (i := j) hj 0 oW
  simpa using this
 ·obtain ⟨cur, hB⟩ := Qcn hr (g := s) rfl
  exact ⟨Qcb h.ev hB dW, Qcb h.rf hB dW, ⟨B, vs, h1, h2.put hx hl u⟩, Qcb h.rmw hB dW, Qcb h.addr hB dW, Qcb h.dat hB dW, Qcb h.ctrl hB dW⟩
theorem Qx8 {α : Type} {l : List α} {c : Nat} {x : α} (h : l[c]? = some x) : l.set c x = l := by
 refine List.ext_getElem? (fun i => ?_)
 rw [List.getElem?_set]
 split
 ·rename_i e
  subst e
  rw [if_pos (List.getElem?_eq_some_iff.1 h).1, h]
 ·rfl
def Qco {α : Type} (f : α → α) (l : List α) (j : Nat) : List α := (l.take j).map f ++ l.drop j
theorem Qn8 {α : Type} (f : α → α) (l : List α) : Qco f l 0 = l := rfl
theorem Qp6 {α : Type} (f : α → α) (l : List α) : Qco f l l.length = l.map f := by unfold Qco; rw [List.take_length, List.drop_length, List.append_nil]
theorem Qx9 {α : Type} (f : α → α) (l : List α) (j : Nat) : (Qco f l j).length = l.length := by
 unfold Qco; rw [List.length_append, List.length_map, List.length_take, List.length_drop]; omega
theorem Qsm {α : Type} (f : α → α) (l : List α) (j : Nat) : (Qco f l j)[j]? = l[j]? := by
 unfold Qco
 by_cases h : j ≤ l.length
 ·rw [List.getElem?_append_right (by rw [List.length_map, List.length_take]; omega), List.length_map, List.length_take, Nat.min_eq_left h, Nat.sub_self, List.getElem?_drop]
  rfl
 ·rw [List.getElem?_eq_none (by rw [List.length_append, List.length_map, List.length_take, List.length_drop]; omega), List.getElem?_eq_none oW]
theorem Qli {α : Type} (f : α → α) : ∀ (l : List α) (j : Nat) (x : α), l[j]? = some x → (Qco f l j).set j (f x) = Qco f l (j + 1)
 | [], j, x, h => by simp at h
 | y :: l, 0, x, h => by
  obtain rfl : y = x := by simpa using h
  rfl
 | y :: l, j + 1, x, h => by
  have ih := Qli f l j x (by simpa using h)
  show f y :: (Qco f l j).set j (f x) = f y :: Qco f l (j + 1)
  rw [ih]
structure SwR (w X : World) (gb hb base : Nat) (G : Array Value) (U : GrV) (h : Gr) (H : Array Value) : Prop where
 b : Below gb w X
 g : Blk X gb 27 G
 r : Blk X (gb + 1) 27 (z8 0)
 n : Blk X hb 27 H
 o : OwnG X base U h
 lo : gb + 2 ≤ base ∧ base ≤ hb ∧ hb < X.heap.size
theorem SwR.low {w X Y : World} {gb hb base : Nat} {G H : Array Value} {U : GrV} {h : Gr} (x : SwR w X gb hb base G U h H) (hB : Below X.heap.size X Y) : SwR w Y gb hb base G U h H :=
 ⟨Qaa x.b (by have := x.lo; omega) hB, x.g.of_below hB, x.r.of_below hB, x.n.of_below hB, x.o.below hB, by have := x.lo; have := hB.size; omega⟩
theorem SwR.put {w X : World} {gb hb base j : Nat} {G H : Array Value} {U U' : GrV} {h h' : Gr} {v : Value} (x : SwR w X gb hb base G U h H) (ho : OwnG (X.setCell ⟨hb, j, none⟩ v) base U h → OwnG (X.setCell ⟨hb, j, none⟩ v) base U' h') : SwR w (X.setCell ⟨hb, j, none⟩ v) gb hb base G U' h' (H.setIfInBounds j v) :=
 ⟨x.b.setCell (by have := x.lo; show gb ≤ hb; omega) _, x.g.setOther (by have := x.lo; show gb ≠ hb; omega) _, x.r.setOther (by have := x.lo; show gb + 1 ≠ hb; omega) _, x.n.set j v, ho (x.o.box x.n), by have := x.lo; simp [World.setCell]; omega⟩
theorem SwR.putE {w X : World} {gb hb base es n cap : Nat} {G H : Array Value} {U : GrV} {h : Gr} (x : SwR w X gb hb base G U h H) (hU : U.ev = .slice (some ⟨es, 0, none⟩) n cap) {i : Nat} (hi : i < h.evs.length) (e : Ev) : SwR w (X.setCells es (i * 5) (Qlh e).toList) gb hb base G U { h with evs := h.evs.set i e } H := by
 obtain ⟨cur, hB⟩ := Qcn x.o.ev (g := es) (by rw [hU]; rfl)
 have hes := (x.o.ev.lt es (by rw [hU]; rfl))
 have hap : ∀ {b : Nat} {cs : Array Value}, Blk X b 27 cs → Blk (X.setCells es (i * 5) (Qlh e).toList) b 27 cs := fun h => (Qhs _ _ _ (by rintro rfl; exact absurd (Qex h hB) dW)).trans h
 have hle : gb ≤ es := by have := x.lo; omega
 have hbl : Below gb w (X.setCells es (i * 5) (Qlh e).toList) := ((((x.b.setCell (p := ⟨es, i * 5, none⟩) hle _).setCell (p := ⟨es, i * 5 + 1, none⟩) hle _).setCell (p := ⟨es, i * 5 + 1 + 1, none⟩) hle _).setCell (p := ⟨es, i * 5 + 1 + 1 + 1, none⟩) hle _).setCell (p := ⟨es, i * 5 + 1 + 1 + 1 + 1, none⟩) hle _
 exact ⟨hbl, hap x.g, hap x.r, hap x.n, x.o.putE hU hi e, x.lo.1, x.lo.2.1, (hap x.n).lt⟩
theorem SwR.new {w X Y : World} {gb hb base j n : Nat} {G H : Array Value} {U : GrV} {h : Gr} {u v : Value} {xs : List Value} (x : SwR w X gb hb base G U h H) (hB : Below X.heap.size X Y) (ho : Y.ownsRow X.heap.size 30 2 v n xs) : (Y.setCell ⟨hb, j, none⟩ u).ownsRow base 30 2 v n xs :=
 Qa6 (Qcb ho (x.low hB).n dW) (by have := x.lo; omega)
theorem SwR.putI {w X : World} {gb hb base s j : Nat} {G H cur : Array Value} {U : GrV} {h h' : Gr} {v : Value} (x : SwR w X gb hb base G U h H) (hs : base ≤ s) (hB : Blk X s 3 cur) (ho : OwnG (X.setCell ⟨s, j, none⟩ v) base U h') : SwR w (X.setCell ⟨s, j, none⟩ v) gb hb base G U h' H := by
 have ne : ∀ {b : Nat} {cs : Array Value}, Blk X b 27 cs → b ≠ s := fun k => by rintro rfl; exact absurd (Qex k hB) dW
 exact ⟨x.b.setCell (by have := x.lo; show gb ≤ s; omega) _, x.g.setOther (ne x.g) _, x.r.setOther (ne x.r) _, x.n.setOther (ne x.n) _, ho, by have := x.lo; simp [World.setCell]; omega⟩
theorem Qm8 {g : Gr} (hb : GrB g) (i : Nat) : GrB (swp g i) := by
 obtain ⟨b1, b2, b3, b4, b5, b6, b7⟩ := hb
 unfold GrB swp
 dsimp only
 rw [Qfe, Qfe, Qfe, Qfe, Qfe, List.length_map]
 refine ⟨b1, b2, b3, b4, b5, b6, fun l hl => ?_⟩
 obtain ⟨l0, h0, rfl⟩ := List.mem_map.1 hl
 rw [List.length_map]
 exact b7 l0 h0
theorem Qfv (vl : Value) (l : List (Int × Int)) (i : Nat) (e : Bool) (w : World) (hl : PArg w vl l) (hb : l.length * 16 ≤ 140737488355328) (hn : ∀ x ∈ l, 0 ≤ x.1 ∧ 0 ≤ x.2) (hi : (i : Int) ≤ 4611686018427387904) :
  Calls Tryz.prog 70 #[vl, .int .i64 ((i : Nat) : Int), .bool e] w fun r w' => ∃ q m, r = .returned (.slice q l.length m) ∧ w'.ownsRow w.heap.size 30 2 (.slice q l.length m) (tdL e (mP (tau i)) l).length (Qam (tdL e (mP (tau i)) l)) ∧ Below w.heap.size w w' :=
 (Qmd vl l i e w hl hb hn hi).mono fun r w' ⟨v, hr, ho, hB⟩ => by
  obtain ⟨q, m, rfl⟩ := Qag ho
  rw [Qfe] at hr
  exact ⟨q, m, hr, by rw [Qfe] at ho ⊢; exact ho, hB⟩
theorem Qlj (V : GrV) (g : Gr) (i : Nat) (w : World) (h : GrR w V g) (hb : GrB g) (hw : Wf g true) (hn : g.evs.length ≤ 256) (hi : i + 1 < g.evs.length) : Calls Tryz.prog 31 #[V.val g, .int .i64 ((i : Nat) : Int)] w fun r w' => ∃ U : GrV, r = .returned (U.val (swp g i)) ∧ OwnG w' w.heap.size U (swp g i) ∧ Below w.heap.size w w' := by
 obtain ⟨Va1, Va2, Va3, Va4, Va5, Va6, Va7⟩ := V
 obtain ⟨p1, k1, e1, hp1, hl1, _⟩ := h.ev
 obtain ⟨p2, k2, e2, _, _⟩ := Qae h.rf
 obtain ⟨p4, k4, e4, _, _⟩ := Qae h.rmw
 obtain ⟨p5, k5, e5, _, _⟩ := Qae h.addr
 obtain ⟨p6, k6, e6, _, _⟩ := Qae h.dat
 obtain ⟨p7, k7, e7, _, _⟩ := Qae h.ctrl
 obtain ⟨p3, k3, e3, hcl, hco⟩ := Qde h.co
 dsimp only at e1 e2 e3 e4 e5 e6 e7
 subst e1
 subst e2
 subst e3
 subst e4
 subst e5
 subst e6
 subst e7
 have H := Qa h
 have HB := Qa hb
 have HWF := Qa hw
 have HP1 := Qa hp1
 have hg0 := (Blk.new w 27 (g8 g p1 k1 p2 k2 p3 k3 p4 k4 p5 k5 p6 k6 p7 k7)).alloc (.cells (z8 0) 27)
 have hr0 := Blk.new (w.alloc (.cells (g8 g p1 k1 p2 k2 p3 k3 p4 k4 p5 k5 p6 k6 p7 k7) 27)) 27 (z8 0)
 have hB0 : Below w.heap.size w ((w.alloc (.cells (g8 g p1 k1 p2 k2 p3 k3 p4 k4 p5 k5 p6 k6 p7 k7) 27)).alloc (.cells (z8 0) 27)) := (bW.alloc nW _).alloc sW _
 rw [World.size_alloc] at hr0
 have hs0 : w.heap.size + 2 ≤ ((w.alloc (.cells (g8 g p1 k1 p2 k2 p3 k3 p4 k4 p5 k5 p6 k6 p7 k7) 27)).alloc (.cells (z8 0) 27)).heap.size := by simp
 have HG0 := Qa hg0
 have HR0 := Qa hr0
 have HB0 := Qa hB0
 have HS0 := Qa hs0
 unfold GrV.val
 dsimp only
 clear h hco hb hw hp1 hg0 hr0 hB0 hs0
 go_enter Tryz.func31, Tryz.ntmps31
 go_upto_region 1 with fail
 generalize (w.alloc (.cells (g8 g p1 k1 p2 k2 p3 k3 p4 k4 p5 k5 p6 k6 p7 k7) 27)).alloc (.cells (z8 0) 27) = X0 at *
 go_wp2_with (first | refine wpList_load_row rfl 27 _ rfl w.heap.size rfl 27 (g8 g p1 k1 p2 k2 p3 k3 p4 k4 p5 k5 p6 k6 p7 k7) (0, 0) _ HG0.out Tryz.underlying27 rfl kW ?_)
 have D := Qh ⟨.slice p1 g.evs.length k1, .slice p2 g.rf.length k2, .slice p3 g.co.length k3, .slice p4 g.rmw.length k4, .slice p5 g.addr.length k5, .slice p6 g.dat.length k6, .slice p7 g.ctrl.length k7⟩ g X0 (H.out.below HB0.out) HB.out
 unfold GrV.val at D
 dsimp only at D
 refine D.mono ?_
 clear D
 rintro e w2 ⟨⟨Ue, Ur, Uc, Um, Ua, Ud, Ut⟩, rfl, hO, hB2⟩
 obtain ⟨q1, c1, e1⟩ := Qag hO.ev
 obtain ⟨q2, c2, e2⟩ := Qag hO.rf
 obtain ⟨B, vs, hBB, hC⟩ := hO.co
 obtain ⟨q3, c3, e3⟩ := Qag hC.own
 rw [hC.rows.len] at e3
 obtain ⟨q4, c4, e4⟩ := Qag hO.rmw
 obtain ⟨q5, c5, e5⟩ := Qag hO.addr
 obtain ⟨q6, c6, e6⟩ := Qag hO.dat
 obtain ⟨q7, c7, e7⟩ := Qag hO.ctrl
 dsimp only at e1 e2 e3 e4 e5 e6 e7
 subst e1 e2 e3 e4 e5 e6 e7
 clear hBB hC
 have hz := Blk.new w2 27 (z8 0)
 have hBz : Below w2.heap.size w2 ((w2.alloc (.cells (z8 0) 27)).setRow w2.heap.size (g8 g q1 c1 q2 c2 q3 c3 q4 c4 q5 c5 q6 c6 q7 c7)) := ((Below.refl w2.heap.size w2).alloc nW _).trans (Qan _ nW)
 have HA2 : Hid (Below X0.heap.size X0 ((w2.alloc (.cells (z8 0) 27)).setRow w2.heap.size (g8 g q1 c1 q2 c2 q3 c3 q4 c4 q5 c5 q6 c6 q7 c7))) := Qaa hB2 hB2.size hBz
 have HSW : Hid (SwR w ((w2.alloc (.cells (z8 0) 27)).setRow w2.heap.size (g8 g q1 c1 q2 c2 q3 c3 q4 c4 q5 c5 q6 c6 q7 c7)) w.heap.size w2.heap.size X0.heap.size (g8 g p1 k1 p2 k2 p3 k3 p4 k4 p5 k5 p6 k6 p7 k7) ⟨.slice q1 g.evs.length c1, .slice q2 g.rf.length c2, .slice q3 g.co.length c3, .slice q4 g.rmw.length c4, .slice q5 g.addr.length c5, .slice q6 g.dat.length c6, .slice q7 g.ctrl.length c7⟩ g (g8 g q1 c1 q2 c2 q3 c3 q4 c4 q5 c5 q6 c6 q7 c7)) :=
  ⟨Qaa HB0.out HB0.out.size HA2.out, HG0.out.of_below HA2.out, HR0.out.of_below HA2.out, hz.setRow' _, hO.below hBz, HS0.out, hB2.size, (hz.setRow' _).lt⟩
 go_upto_region 2 with (first | refine wpList_store_row rfl 27 _ _ rfl w2.heap.size (g8 g q1 c1 q2 c2 q3 c3 q4 c4 q5 c5 q6 c6 q7 c7) rfl rfl 27 (z8 0) hz kW rfl kW ?_)
 try simp only [Act.put]
 clear hz hBz HA2 hO hB2 HG0 HR0 HB0 HS0
 generalize (w2.alloc (.cells (z8 0) 27)).setRow w2.heap.size (g8 g q1 c1 q2 c2 q3 c3 q4 c4 q5 c5 q6 c6 q7 c7) = X1 at *
 generalize w2.heap.size = hb at *
 generalize X0.heap.size = base at *
 obtain ⟨sv, ov, rfl, hat⟩ := HP1.out oW
 obtain ⟨es, rfl⟩ : ∃ es, q1 = some ⟨es, 0, none⟩ := by
  rcases HSW.out.o.ev.2 with ⟨k, _⟩ | ⟨es, cap, cur, k, _⟩
  ·have : g.evs.length = 0 := by simpa using (Value.slice.inj k).2.1
   omega
  ·exact ⟨es, (Value.slice.inj k).1⟩
 have HKE : Hid (∀ W, Below w.heap.size w W → ∀ j e, g.evs[j]? = some e → W.cell? ⟨sv, ov + j * 5, none⟩ = some (.int .i64 e.t) ∧ W.cell? ⟨sv, ov + j * 5 + 1, none⟩ = some (.int .i64 e.k) ∧ W.cell? ⟨sv, ov + j * 5 + 2, none⟩ = some (.int .i64 e.l) ∧ W.cell? ⟨sv, ov + j * 5 + 3, none⟩ = some (.int .u64 e.v) ∧ W.cell? ⟨sv, ov + j * 5 + 4, none⟩ = some (.int .i64 e.m)) := fun W hW j e he =>
  ⟨(hW.cell (p := ⟨sv, ov + j * 5, none⟩) hat.lt).trans (hat.c0 j e he), (hW.cell (p := ⟨sv, ov + j * 5 + 1, none⟩) hat.lt).trans (hat.c1 j e he), (hW.cell (p := ⟨sv, ov + j * 5 + 2, none⟩) hat.lt).trans (hat.c2 j e he), (hW.cell (p := ⟨sv, ov + j * 5 + 3, none⟩) hat.lt).trans (hat.c3 j e he), (hW.cell (p := ⟨sv, ov + j * 5 + 4, none⟩) hat.lt).trans (hat.c4 j e he)⟩
 clear hat HP1
 obtain ⟨ea, hea⟩ : ∃ z, g.ev (i + 1) = z := ⟨_, rfl⟩
 obtain ⟨eb, heb⟩ : ∃ z, g.ev i = z := ⟨_, rfl⟩
 have ha : g.evs[i + 1]? = some ea := by rw [← hea]; exact Gr.ev_at hi
 have hbv : g.evs[i]? = some eb := by rw [← heb]; exact Gr.ev_at oW
 have HEA := Qa hea
 have HEB := Qa heb
 have HA := Qa ha
 have HBV := Qa hbv
 clear hea heb ha hbv
 have I0 : (0 : Int) ≤ (i : Int) := by omega
 have I1 : (i : Int) < (g.evs.length : Int) := by omega
 have J0 : (0 : Int) ≤ (i : Int) + 1 := by omega
 have J1 : (i : Int) + 1 < (g.evs.length : Int) := by omega
 have W1 : IntKind.i64.wrap ((i : Int) + 1) = (i : Int) + 1 := by
  rw [show (i : Int) + 1 = ((i + 1 : Nat) : Int) by omega]
  exact Qch oW
 have T1 : ((i : Int) + 1).toNat = i + 1 := by omega
 generalize hgb : w.heap.size = gb at *
 have HST : Hid (∀ W U' h', SwR w W gb hb base (g8 g (some ⟨sv, ov, none⟩) k1 p2 k2 p3 k3 p4 k4 p5 k5 p6 k6 p7 k7) U' h' (g8 g (some ⟨es, 0, none⟩) c1 q2 c2 q3 c3 q4 c4 q5 c5 q6 c6 q7 c7) → W.cell? ⟨hb, 1, none⟩ = some (.slice (some ⟨es, 0, none⟩) g.evs.length c1) ∧ W.cell? ⟨gb, 1, none⟩ = some (.slice (some ⟨sv, ov, none⟩) g.evs.length k1)) := fun W U' h' s => ⟨s.n.cell rfl, s.g.cell rfl⟩
 have HE2 := Qa HSW.out.o.ev
 have HT1 := Qa (Qm7 HE2.out (i := i) oW)
 go_cut [] from 8 to 89 (fun wx => Hid (SwR w wx gb hb base (g8 g (some ⟨sv, ov, none⟩) k1 p2 k2 p3 k3 p4 k4 p5 k5 p6 k6 p7 k7) ⟨.slice (some ⟨es, 0, none⟩) g.evs.length c1, .slice q2 g.rf.length c2, .slice q3 g.co.length c3, .slice q4 g.rmw.length c4, .slice q5 g.addr.length c5, .slice q6 g.dat.length c6, .slice q7 g.ctrl.length c7⟩ { g with evs := g.evs.set i ea } (g8 g (some ⟨es, 0, none⟩) c1 q2 c2 q3 c3 q4 c4 q5 c5 q6 c6 q7 c7)))
 case first =>
  have HSD := Qa (HSW.out.low (Below.refl X1.heap.size X1).drew)
  refine wp_region_held_drew (S := fun W => (W.cell? ⟨hb, 1, none⟩ = some (.slice (some ⟨es, 0, none⟩) g.evs.length c1) ∧ W.cell? ⟨gb, 1, none⟩ = some (.slice (some ⟨sv, ov, none⟩) g.evs.length k1)) ∧ W.cell? ⟨sv, ov + (i + 1) * 5, none⟩ = some (.int .i64 ea.t) ∧ W.cell? ⟨sv, ov + (i + 1) * 5 + 1, none⟩ = some (.int .i64 ea.k) ∧ W.cell? ⟨sv, ov + (i + 1) * 5 + 2, none⟩ = some (.int .i64 ea.l) ∧ W.cell? ⟨sv, ov + (i + 1) * 5 + 3, none⟩ = some (.int .u64 ea.v) ∧ W.cell? ⟨sv, ov + (i + 1) * 5 + 4, none⟩ = some (.int .i64 ea.m)) kW ⟨HST.out _ _ _ HSD.out, HKE.out _ HSD.out.b _ _ HA.out⟩ (fun hHeld => ?_)
  have HTD := Qa (Qm7 (HSD.out.o.ev) (i := i) oW)
  generalize X1.drew = wd at *
  refine tzW 0 rfl ?_
  refine tzW 1 rfl ?_
  refine tzW 2 rfl ?_
  refine tzW 3 rfl ?_
  refine tzW 4 rfl ?_
  refine tzW 5 rfl ?_
  refine tzW 6 rfl ?_
  refine tzW 7 rfl ?_
  refine tzW 8 rfl ?_
  refine tzW 9 rfl ?_
  refine wpAnyH_ready (rs := [10]) kW sW ?_
  refine rdy rfl (fun K hK => ?_) AllReadyH.nil
  refine wp_store_mid 34 _ _ rfl es (i * 5) (Qlh ea) rfl rfl HTD.out kW kW ?_
  have HS2 := Qa (HSD.out.putE rfl (i := i) oW ea)
  refine hK.out _ _ ⟨HST.out _ _ _ HS2.out, HKE.out _ HS2.out.b _ _ HA.out⟩ (fun hHeld => ?_)
  refine wpAnyH_done kW ?_ _
  clear hHeld
  go_wp2_with fail
  go_meet
  exact HS2.out
 case rest =>
 have HS2 : Hid (SwR w wc gb hb base (g8 g (some ⟨sv, ov, none⟩) k1 p2 k2 p3 k3 p4 k4 p5 k5 p6 k6 p7 k7) ⟨.slice (some ⟨es, 0, none⟩) g.evs.length c1, .slice q2 g.rf.length c2, .slice q3 g.co.length c3, .slice q4 g.rmw.length c4, .slice q5 g.addr.length c5, .slice q6 g.dat.length c6, .slice q7 g.ctrl.length c7⟩ { g with evs := g.evs.set i ea } (g8 g (some ⟨es, 0, none⟩) c1 q2 c2 q3 c3 q4 c4 q5 c5 q6 c6 q7 c7)) := hcut
 clear hcut HSW HE2 HT1
 generalize hwq : wc = X2 at *
 clear hwq
 go_upto_region 3 with fail
 go_cut [] from 20 to 89 (fun wx => Hid (SwR w wx gb hb base (g8 g (some ⟨sv, ov, none⟩) k1 p2 k2 p3 k3 p4 k4 p5 k5 p6 k6 p7 k7) ⟨.slice (some ⟨es, 0, none⟩) g.evs.length c1, .slice q2 g.rf.length c2, .slice q3 g.co.length c3, .slice q4 g.rmw.length c4, .slice q5 g.addr.length c5, .slice q6 g.dat.length c6, .slice q7 g.ctrl.length c7⟩ { g with evs := (g.evs.set i ea).set (i + 1) eb } (g8 g (some ⟨es, 0, none⟩) c1 q2 c2 q3 c3 q4 c4 q5 c5 q6 c6 q7 c7)))
 case first =>
  have HSD := Qa (HS2.out.low (Below.refl X2.heap.size X2).drew)
  refine wp_region_held_drew (S := fun W => (W.cell? ⟨hb, 1, none⟩ = some (.slice (some ⟨es, 0, none⟩) g.evs.length c1) ∧ W.cell? ⟨gb, 1, none⟩ = some (.slice (some ⟨sv, ov, none⟩) g.evs.length k1)) ∧ W.cell? ⟨sv, ov + i * 5, none⟩ = some (.int .i64 eb.t) ∧ W.cell? ⟨sv, ov + i * 5 + 1, none⟩ = some (.int .i64 eb.k) ∧ W.cell? ⟨sv, ov + i * 5 + 2, none⟩ = some (.int .i64 eb.l) ∧ W.cell? ⟨sv, ov + i * 5 + 3, none⟩ = some (.int .u64 eb.v) ∧ W.cell? ⟨sv, ov + i * 5 + 4, none⟩ = some (.int .i64 eb.m)) kW ⟨HST.out _ _ _ HSD.out, HKE.out _ HSD.out.b _ _ HBV.out⟩ (fun hHeld => ?_)
  have HTD : Hid (X2.drew.there es ((i + 1) * 5) 5) := by
   have := HSD.out.o.ev
   dsimp only at this
   rw [List.length_set] at this
   exact Qm7 this (i := i + 1) hi
  generalize X2.drew = wd at *
  refine tzW 0 rfl ?_
  refine tzW 1 rfl ?_
  refine tzW 2 rfl ?_
  refine tzW 3 rfl ?_
  refine tzW 4 rfl ?_
  refine tzW 5 rfl ?_
  refine tzW 6 rfl ?_
  refine tzW 7 rfl ?_
  refine tzW 8 rfl ?_
  refine tzW 9 rfl ?_
  refine wpAnyH_ready (rs := [10]) kW sW ?_
  refine rdy rfl (fun K hK => ?_) AllReadyH.nil
  refine wp_store_mid 34 _ _ rfl es ((i + 1) * 5) (Qlh eb) rfl rfl HTD.out kW kW ?_
  have HS3 := Qa (HSD.out.putE rfl (i := i + 1) (by dsimp only; rw [List.length_set]; exact hi) eb)
  refine hK.out _ _ ⟨HST.out _ _ _ HS3.out, HKE.out _ HS3.out.b _ _ HBV.out⟩ (fun hHeld => ?_)
  refine wpAnyH_done kW ?_ _
  clear hHeld
  go_wp2_with fail
  go_meet
  exact HS3.out
 case rest =>
 have HS3 : Hid (SwR w wc gb hb base (g8 g (some ⟨sv, ov, none⟩) k1 p2 k2 p3 k3 p4 k4 p5 k5 p6 k6 p7 k7) ⟨.slice (some ⟨es, 0, none⟩) g.evs.length c1, .slice q2 g.rf.length c2, .slice q3 g.co.length c3, .slice q4 g.rmw.length c4, .slice q5 g.addr.length c5, .slice q6 g.dat.length c6, .slice q7 g.ctrl.length c7⟩ { g with evs := (g.evs.set i ea).set (i + 1) eb } (g8 g (some ⟨es, 0, none⟩) c1 q2 c2 q3 c3 q4 c4 q5 c5 q6 c6 q7 c7)) := hcut
 clear hcut HS2 HST HKE HA HBV I0 I1 J0 J1 W1 T1
 generalize hwq : wc = X3 at *
 clear hwq
 have hi4 : (i : Int) ≤ 4611686018427387904 := by omega
 have cg : X3.cell? ⟨gb, 2, none⟩ = some (.slice p2 g.rf.length k2) := HS3.out.g.cell rfl
 have HD3 := Qa (Qfv (.slice p2 g.rf.length k2) g.rf i true X3 (H.out.rf.below (by rw [hgb]; exact HS3.out.b)) HB.out.1 (fun x hx => by obtain ⟨a, b, rfl, _⟩ := Qiy HWF.out hx; exact ⟨by dsimp only; omega, by dsimp only; omega⟩) hi4)
 go_upto_region 5 with (go_at_call 70; refine HD3.out.mono ?_; rintro e Y3 ⟨r2, m2, rfl, ho, hB⟩; have cn' : Y3.cell? ⟨hb, 2, none⟩ = some (.slice q2 g.rf.length c2) := (HS3.out.low hB).n.cell rfl; have fn : Y3.frozen? ⟨hb, 2, none⟩ = false := (HS3.out.low hB).n.frozen 2)
 have HS4 : Hid (SwR w (Y3.setCell ⟨hb, 2, none⟩ (.slice r2 g.rf.length m2)) gb hb base (g8 g (some ⟨sv, ov, none⟩) k1 p2 k2 p3 k3 p4 k4 p5 k5 p6 k6 p7 k7) ⟨.slice (some ⟨es, 0, none⟩) g.evs.length c1, .slice r2 g.rf.length m2, .slice q3 g.co.length c3, .slice q4 g.rmw.length c4, .slice q5 g.addr.length c5, .slice q6 g.dat.length c6, .slice q7 g.ctrl.length c7⟩ { g with evs := (g.evs.set i ea).set (i + 1) eb, rf := tdL true (mP (tau i)) g.rf } (g8 g (some ⟨es, 0, none⟩) c1 r2 m2 q3 c3 q4 c4 q5 c5 q6 c6 q7 c7)) := (HS3.out.low hB).put (fun o => ⟨o.ev, HS3.out.new hB ho, o.co, o.rmw, o.addr, o.dat, o.ctrl⟩)
 clear cg HD3 ho hB cn' fn HS3
 generalize Y3.setCell ⟨hb, 2, none⟩ (.slice r2 g.rf.length m2) = X4 at *
 have cg : X4.cell? ⟨gb, 4, none⟩ = some (.slice p4 g.rmw.length k4) := HS4.out.g.cell rfl
 have HD4 := Qa (Qfv (.slice p4 g.rmw.length k4) g.rmw i false X4 (H.out.rmw.below (by rw [hgb]; exact HS4.out.b)) HB.out.2.1 (fun x hx => by obtain ⟨a, b, rfl, _⟩ := Qkc HWF.out hx; exact ⟨by dsimp only; omega, by dsimp only; omega⟩) hi4)
 go_upto_region 6 with (go_at_call 70; refine HD4.out.mono ?_; rintro e Y4 ⟨r4, m4, rfl, ho, hB⟩; have cn' : Y4.cell? ⟨hb, 4, none⟩ = some (.slice q4 g.rmw.length c4) := (HS4.out.low hB).n.cell rfl; have fn : Y4.frozen? ⟨hb, 4, none⟩ = false := (HS4.out.low hB).n.frozen 4)
 have HS5 : Hid (SwR w (Y4.setCell ⟨hb, 4, none⟩ (.slice r4 g.rmw.length m4)) gb hb base (g8 g (some ⟨sv, ov, none⟩) k1 p2 k2 p3 k3 p4 k4 p5 k5 p6 k6 p7 k7) ⟨.slice (some ⟨es, 0, none⟩) g.evs.length c1, .slice r2 g.rf.length m2, .slice q3 g.co.length c3, .slice r4 g.rmw.length m4, .slice q5 g.addr.length c5, .slice q6 g.dat.length c6, .slice q7 g.ctrl.length c7⟩ { g with evs := (g.evs.set i ea).set (i + 1) eb, rf := tdL true (mP (tau i)) g.rf, rmw := tdL false (mP (tau i)) g.rmw } (g8 g (some ⟨es, 0, none⟩) c1 r2 m2 q3 c3 r4 m4 q5 c5 q6 c6 q7 c7)) := (HS4.out.low hB).put (fun o => ⟨o.ev, o.rf, o.co, HS4.out.new hB ho, o.addr, o.dat, o.ctrl⟩)
 clear cg HD4 ho hB cn' fn HS4
 generalize Y4.setCell ⟨hb, 4, none⟩ (.slice r4 g.rmw.length m4) = X5 at *
 have cg : X5.cell? ⟨gb, 5, none⟩ = some (.slice p5 g.addr.length k5) := HS5.out.g.cell rfl
 have HD5 := Qa (Qfv (.slice p5 g.addr.length k5) g.addr i false X5 (H.out.addr.below (by rw [hgb]; exact HS5.out.b)) HB.out.2.2.1 (fun x hx => by obtain ⟨a, b, rfl, _⟩ := Qgd (HWF.out 6 oW) hx; exact ⟨by dsimp only; omega, by dsimp only; omega⟩) hi4)
 go_upto_region 7 with (go_at_call 70; refine HD5.out.mono ?_; rintro e Y5 ⟨r5, m5, rfl, ho, hB⟩; have cn' : Y5.cell? ⟨hb, 5, none⟩ = some (.slice q5 g.addr.length c5) := (HS5.out.low hB).n.cell rfl; have fn : Y5.frozen? ⟨hb, 5, none⟩ = false := (HS5.out.low hB).n.frozen 5)
 have HS6 : Hid (SwR w (Y5.setCell ⟨hb, 5, none⟩ (.slice r5 g.addr.length m5)) gb hb base (g8 g (some ⟨sv, ov, none⟩) k1 p2 k2 p3 k3 p4 k4 p5 k5 p6 k6 p7 k7) ⟨.slice (some ⟨es, 0, none⟩) g.evs.length c1, .slice r2 g.rf.length m2, .slice q3 g.co.length c3, .slice r4 g.rmw.length m4, .slice r5 g.addr.length m5, .slice q6 g.dat.length c6, .slice q7 g.ctrl.length c7⟩ { g with evs := (g.evs.set i ea).set (i + 1) eb, rf := tdL true (mP (tau i)) g.rf, rmw := tdL false (mP (tau i)) g.rmw, addr := tdL false (mP (tau i)) g.addr } (g8 g (some ⟨es, 0, none⟩) c1 r2 m2 q3 c3 r4 m4 r5 m5 q6 c6 q7 c7)) := (HS5.out.low hB).put (fun o => ⟨o.ev, o.rf, o.co, o.rmw, HS5.out.new hB ho, o.dat, o.ctrl⟩)
 clear cg HD5 ho hB cn' fn HS5
 generalize Y5.setCell ⟨hb, 5, none⟩ (.slice r5 g.addr.length m5) = X6 at *
 have cg : X6.cell? ⟨gb, 6, none⟩ = some (.slice p6 g.dat.length k6) := HS6.out.g.cell rfl
 have HD6 := Qa (Qfv (.slice p6 g.dat.length k6) g.dat i false X6 (H.out.dat.below (by rw [hgb]; exact HS6.out.b)) HB.out.2.2.2.1 (fun x hx => by obtain ⟨a, b, rfl, _⟩ := Qgd (HWF.out 7 oW) hx; exact ⟨by dsimp only; omega, by dsimp only; omega⟩) hi4)
 go_upto_region 8 with (go_at_call 70; refine HD6.out.mono ?_; rintro e Y6 ⟨r6, m6, rfl, ho, hB⟩; have cn' : Y6.cell? ⟨hb, 6, none⟩ = some (.slice q6 g.dat.length c6) := (HS6.out.low hB).n.cell rfl; have fn : Y6.frozen? ⟨hb, 6, none⟩ = false := (HS6.out.low hB).n.frozen 6)
 have HS7 : Hid (SwR w (Y6.setCell ⟨hb, 6, none⟩ (.slice r6 g.dat.length m6)) gb hb base (g8 g (some ⟨sv, ov, none⟩) k1 p2 k2 p3 k3 p4 k4 p5 k5 p6 k6 p7 k7) ⟨.slice (some ⟨es, 0, none⟩) g.evs.length c1, .slice r2 g.rf.length m2, .slice q3 g.co.length c3, .slice r4 g.rmw.length m4, .slice r5 g.addr.length m5, .slice r6 g.dat.length m6, .slice q7 g.ctrl.length c7⟩ { g with evs := (g.evs.set i ea).set (i + 1) eb, rf := tdL true (mP (tau i)) g.rf, rmw := tdL false (mP (tau i)) g.rmw, addr := tdL false (mP (tau i)) g.addr, dat := tdL false (mP (tau i)) g.dat } (g8 g (some ⟨es, 0, none⟩) c1 r2 m2 q3 c3 r4 m4 r5 m5 r6 m6 q7 c7)) := (HS6.out.low hB).put (fun o => ⟨o.ev, o.rf, o.co, o.rmw, o.addr, HS6.out.new hB ho, o.ctrl⟩)
 clear cg HD6 ho hB cn' fn HS6
 generalize Y6.setCell ⟨hb, 6, none⟩ (.slice r6 g.dat.length m6) = X7 at *
 have cg : X7.cell? ⟨gb, 7, none⟩ = some (.slice p7 g.ctrl.length k7) := HS7.out.g.cell rfl
 have HD7 := Qa (Qfv (.slice p7 g.ctrl.length k7) g.ctrl i false X7 (H.out.ctrl.below (by rw [hgb]; exact HS7.out.b)) HB.out.2.2.2.2.1 (fun x hx => by obtain ⟨a, b, rfl, _⟩ := Qgd (HWF.out 8 oW) hx; exact ⟨by dsimp only; omega, by dsimp only; omega⟩) hi4)
 go_upto_region 9 with (go_at_call 70; refine HD7.out.mono ?_; rintro e Y7 ⟨r7, m7, rfl, ho, hB⟩; have cn' : Y7.cell? ⟨hb, 7, none⟩ = some (.slice q7 g.ctrl.length c7) := (HS7.out.low hB).n.cell rfl; have fn : Y7.frozen? ⟨hb, 7, none⟩ = false := (HS7.out.low hB).n.frozen 7)
 have HS8 : Hid (SwR w (Y7.setCell ⟨hb, 7, none⟩ (.slice r7 g.ctrl.length m7)) gb hb base (g8 g (some ⟨sv, ov, none⟩) k1 p2 k2 p3 k3 p4 k4 p5 k5 p6 k6 p7 k7) ⟨.slice (some ⟨es, 0, none⟩) g.evs.length c1, .slice r2 g.rf.length m2, .slice q3 g.co.length c3, .slice r4 g.rmw.length m4, .slice r5 g.addr.length m5, .slice r6 g.dat.length m6, .slice r7 g.ctrl.length m7⟩ { g with evs := (g.evs.set i ea).set (i + 1) eb, rf := tdL true (mP (tau i)) g.rf, rmw := tdL false (mP (tau i)) g.rmw, addr := tdL false (mP (tau i)) g.addr, dat := tdL false (mP (tau i)) g.dat, ctrl := tdL false (mP (tau i)) g.ctrl } (g8 g (some ⟨es, 0, none⟩) c1 r2 m2 q3 c3 r4 m4 r5 m5 r6 m6 r7 m7)) := (HS7.out.low hB).put (fun o => ⟨o.ev, o.rf, o.co, o.rmw, o.addr, o.dat, HS7.out.new hB ho⟩)
 clear cg HD7 ho hB cn' fn HS7
 generalize Y7.setCell ⟨hb, 7, none⟩ (.slice r7 g.ctrl.length m7) = X8 at *
 obtain ⟨GG, hGG⟩ : ∃ z, (g8 g (some ⟨sv, ov, none⟩) k1 p2 k2 p3 k3 p4 k4 p5 k5 p6 k6 p7 k7) = z := ⟨_, rfl⟩
 obtain ⟨HH, hHH⟩ : ∃ z, (g8 g (some ⟨es, 0, none⟩) c1 r2 m2 q3 c3 r4 m4 r5 m5 r6 m6 r7 m7) = z := ⟨_, rfl⟩
 obtain ⟨UU, hUU⟩ : ∃ z : GrV, ⟨.slice (some ⟨es, 0, none⟩) g.evs.length c1, .slice r2 g.rf.length m2, .slice q3 g.co.length c3, .slice r4 g.rmw.length m4, .slice r5 g.addr.length m5, .slice r6 g.dat.length m6, .slice r7 g.ctrl.length m7⟩ = z := ⟨_, rfl⟩
 obtain ⟨g9, hg9⟩ : ∃ z : Gr, { g with evs := (g.evs.set i ea).set (i + 1) eb, rf := tdL true (mP (tau i)) g.rf, rmw := tdL false (mP (tau i)) g.rmw, addr := tdL false (mP (tau i)) g.addr, dat := tdL false (mP (tau i)) g.dat, ctrl := tdL false (mP (tau i)) g.ctrl } = z := ⟨_, rfl⟩
 rw [hHH] at HS8
 rw [hUU] at HS8
 rw [hg9] at HS8
 rw [hGG] at HS8
 have HH3 : Hid (HH[3]? = some (.slice q3 g.co.length c3)) := by rw [Hid, ← hHH]; rfl
 have HU3 : Hid (UU.co = .slice q3 g.co.length c3) := by rw [Hid, ← hUU]
 have HG9 : Hid ({ g9 with co := g.co } = g9) := by rw [Hid, ← hg9]
 have HHH := Qa hHH
 have HUU := Qa hUU
 have HGN := Qa hg9
 clear hHH hUU hg9 hGG
 have HN : Hid (∀ l ∈ g.co, l.length ≤ 140737488355328 ∧ ∀ x ∈ l, (0 : Int) ≤ x) := fun l hl => by
  have h8 := HB.out.2.2.2.2.2.2 l hl
  obtain ⟨k, hk, rfl⟩ := List.mem_iff_getElem.1 hl
  refine ⟨oW, fun x hx => ?_⟩
  obtain ⟨n, rfl, _⟩ := (Qmx HWF.out (List.getElem?_eq_getElem hk)).2 x hx
  omega
 have HCL : Hid (g.co.length ≤ 9223372036854775807) := hcl
 go_wp2_with fail
 go_loopg [6] g.co.length (fun f v6 wr => ∃ c : Nat, v6 = .int .i64 ((c : Nat) : Int) ∧ c ≤ g.co.length ∧ Hid (c + f = g.co.length) ∧ Hid (SwR w wr gb hb base GG UU { g9 with co := Qco (List.map (mI (tau i))) g.co c } HH))
 case atStart => exact ⟨0, rfl, Nat.zero_le _, Nat.zero_add _, by rw [Hid, Qn8, HG9.out]; exact HS8.out⟩
 case round =>
  clear HS8
  obtain ⟨c, rfl, hc, HKF, HSX⟩ := hrel
  generalize hwx : wr = wx at *
  clear hwx
  have b3 : wx.cell? ⟨hb, 3, none⟩ = some (.slice q3 g.co.length c3) := HSX.out.n.cell HH3.out
  have C0 : (0 : Int) ≤ (c : Int) := by omega
  by_cases hlt : c < g.co.length
  ·have C1 : (c : Int) < (g.co.length : Int) := by omega
   obtain ⟨l, hl⟩ : ∃ l, g.co[c]? = some l := ⟨_, List.getElem?_eq_getElem hlt⟩
   have HLN := Qa (HN.out l (List.mem_of_getElem? hl))
   have HM : Hid ((Qco (List.map (mI (tau i))) g.co c)[c]? = some l) := (Qsm _ _ _).trans hl
   have HM2 : Hid ((Qco (List.map (mI (tau i))) g.co c).set c (l.map (mI (tau i))) = Qco (List.map (mI (tau i))) g.co (c + 1)) := Qli _ _ _ _ hl
   generalize Qco (List.map (mI (tau i))) g.co c = cur at *
   generalize hnx : Qco (List.map (mI (tau i))) g.co (c + 1) = nxt at *
   have HNXT := Qa hnx
   clear hl hnx
   go_wp2_with fail
   clear b3
   go_loopg [7] l.length (fun f v7 wr => ∃ j : Nat, v7 = .int .i64 ((j : Nat) : Int) ∧ j ≤ l.length ∧ Hid (j + f = l.length) ∧ Hid (SwR w wr gb hb base GG UU { g9 with co := cur.set c (Qco (mI (tau i)) l j) } HH))
   case atStart => exact ⟨0, rfl, Nat.zero_le _, Nat.zero_add _, by rw [Hid, Qn8, Qx8 HM.out]; exact HSX.out⟩
   case round =>
    clear HSX
    obtain ⟨j, rfl, hj, HJF, HSY⟩ := hrel
    generalize hwy : wr = wy at *
    clear hwy
    have hcl2 : c < cur.length := (List.getElem?_eq_some_iff.1 HM.out).1
    have hrow : (cur.set c (Qco (mI (tau i)) l j))[c]? = some (Qco (mI (tau i)) l j) := by rw [List.getElem?_set, if_pos rfl, if_pos hcl2]
    obtain ⟨cs, qx, cx, hq3, b4, hin⟩ := HSY.out.o.row HU3.out hrow
    have b3 : wy.cell? ⟨hb, 3, none⟩ = some (.slice q3 g.co.length c3) := HSY.out.n.cell HH3.out
    rw [Qx9] at b4 hin
    rw [hq3] at b3
    have J0 : (0 : Int) ≤ (j : Int) := by omega
    have HIN := Qa hin
    have HQ3 := Qa hq3
    clear hrow hq3 hin
    by_cases hjl : j < l.length
    ·have J1 : (j : Int) < (l.length : Int) := by omega
     obtain ⟨s, rfl, hbs, hcs, ⟨cc, hcc⟩, hth, hat, hput⟩ := HIN.out oW
     obtain ⟨x, hx⟩ : ∃ x, l[j]? = some x := ⟨_, List.getElem?_eq_getElem hjl⟩
     have b5 := hat j x ((Qsm _ _ _).trans hx)
     have HTH : Hid (wy.drew.there s j 1) := by
      intro t ht
      obtain rfl : t = 0 := by omega
      have := hth j hjl
      rw [Nat.zero_add] at this
      exact this
     have HX0 := Qa (HLN.out.2 x (List.mem_of_getElem? hx))
     have HST := Qa ((HSY.out.low bW.drew).putI hbs (cur := cc) hcc.drew (j := j) (v := .int .i64 (mI (tau i) x)) (h' := { g9 with co := cur.set c (Qco (mI (tau i)) l (j + 1)) }) (by have := hput j (mI (tau i) x); dsimp only at this; rw [List.set_set, Qli _ _ _ _ hx] at this; exact this.below bW.drew))
     have hne1 : hb ≠ s := by
      rintro rfl
      exact absurd (Qex HSY.out.n hcc) dW
     have HKX : Hid ((wy.drew.setCell ⟨s, j, none⟩ (.int .i64 (mI (tau i) x))).cell? ⟨hb, 3, none⟩ = some (.slice (some ⟨cs, 0, none⟩) g.co.length c3) ∧ (wy.drew.setCell ⟨s, j, none⟩ (.int .i64 (mI (tau i) x))).cell? ⟨cs, c, none⟩ = some (.slice (some ⟨s, 0, none⟩) l.length cx)) := ⟨(World.cell?_setCell_far _ _ _ _ (Ne.symm hne1)).trans b3, (World.cell?_setCell_far _ _ _ _ (Ne.symm hcs)).trans b4⟩
     clear hat hth hput hcc hx HIN hne1 hcs
     go_upto_region 15 with fail
     refine wp_region_held_drew (S := fun W => W.cell? ⟨hb, 3, none⟩ = some (.slice (some ⟨cs, 0, none⟩) g.co.length c3) ∧ W.cell? ⟨cs, c, none⟩ = some (.slice (some ⟨s, 0, none⟩) l.length cx)) kW ⟨b3, b4⟩ (fun hHeld => ?_)
     have b6 : wy.drew.cell? ⟨s, j, none⟩ = some (.int .i64 x) := b5
     have HKS : Hid ((wy.drew.setCell ⟨s, j, none⟩ (.int .i64 (mI (tau i) x))).cell? ⟨hb, 3, none⟩ = some (.slice (some ⟨cs, 0, none⟩) g.co.length c3) ∧ (wy.drew.setCell ⟨s, j, none⟩ (.int .i64 (mI (tau i) x))).cell? ⟨cs, c, none⟩ = some (.slice (some ⟨s, 0, none⟩) l.length cx)) := HKX.out
     clear b3 b4 b5 HKX
     generalize wy.drew = wd at *
     refine tzW 0 rfl ?_
     refine tzW 1 rfl ?_
     refine tzW 2 rfl ?_
     refine tzW 3 rfl ?_
     refine tzW 4 rfl ?_
     refine tzW 5 rfl ?_
     refine tzW 6 rfl ?_
     refine tzW 7 rfl ?_
     refine tzW 8 rfl ?_
     refine tzW 9 rfl ?_
     refine tzW 10 rfl ?_
     refine tzW 11 rfl ?_
     refine tzW 12 rfl ?_
     refine tzW 14 rfl ?_
     refine wpAnyH_ready (rs := [13]) kW sW ?_
     refine rdy rfl (fun K hK => ?_) AllReadyH.nil
     simp only [z1, z2, z3]
     go_simp
     refine hK.out _ _ hHeld (fun hHeld => ?_)
     clear hK K
     try simp only [zz]
     refine wpAnyH_ready (rs := [15]) kW sW ?_
     refine rdy rfl (fun K hK => ?_) AllReadyH.nil
     simp only [z1, z2, z3]
     go_simp
     refine (Qjf x i wd HX0.out hi4).mono ?_
     rintro e w2 ⟨rfl, rfl⟩
     refine hK.out _ _ hHeld (fun hHeld => ?_)
     clear hK K
     try simp only [zz]
     refine tzW 16 rfl ?_
     refine wpAnyH_ready (rs := [17]) kW sW ?_
     refine rdy rfl (fun K hK => ?_) AllReadyH.nil
     refine Qou 3 _ _ rfl s j (.int .i64 (mI (tau i) x)) rfl rfl HTH.out kW rfl ?_
     refine hK.out _ _ HKS.out (fun hHeld => ?_)
     refine wpAnyH_done kW ?_ _
     clear hHeld HKS HTH
     have hle := HLN.out.1
     go_wp2_with fail
     go_roundg (l.length - (j + 1))
     case measure => have := HJF.out; omega
     case rel => exact ⟨j + 1, by go_num, oW, by have := HJF.out; rw [Hid]; omega, HST.out⟩
    ·obtain rfl : j = l.length := by omega
     have HS9 : Hid (SwR w wy gb hb base GG UU { g9 with co := Qco (List.map (mI (tau i))) g.co (c + 1) } HH) := by
      have := HSY.out
      rw [Qp6, HM2.out, ← HNXT.out] at this
      exact this
     clear HSY
     go_wp2_with fail
     go_roundg (g.co.length - (c + 1))
     case measure => have := HKF.out; omega
     case rel => exact ⟨c + 1, by go_num, oW, by have := HKF.out; rw [Hid]; omega, HS9.out⟩
  ·obtain rfl : c = g.co.length := by omega
   have hh := HHH.out
   subst hh
   have hall : ((g8 g (some ⟨es, 0, none⟩) c1 r2 m2 q3 c3 r4 m4 r5 m5 r6 m6 r7 m7) : Array Value).all (·.oneCell') = true := by simp [Value.oneCell']
   have hinf : (Tryz.prog.info? 27).map (·.size) = some ((g8 g (some ⟨es, 0, none⟩) c1 r2 m2 q3 c3 r4 m4 r5 m5 r6 m6 r7 m7) : Array Value).size := by kernel_rfl
   have HAL := Qa hall
   have HIF := Qa hinf
   have HRX := Qa HSX.out.r
   have HNX := Qa HSX.out.n
   clear hall hinf
   go_upto_region 16 with fail
   go_wp2_with (first | refine wpList_load_row rfl 27 _ rfl hb rfl 27 (g8 g (some ⟨es, 0, none⟩) c1 r2 m2 q3 c3 r4 m4 r5 m5 r6 m6 r7 m7) (0, 0) _ HNX.out Tryz.underlying27 rfl kW ?_ | refine wpList_store_row rfl 27 _ _ rfl (gb + 1) (g8 g (some ⟨es, 0, none⟩) c1 r2 m2 q3 c3 r4 m4 r5 m5 r6 m6 r7 m7) rfl rfl 27 (z8 0) HRX.out HIF.out rfl HAL.out ?_)
   (try simp only [Exit.inBlock, Exit.then])
   refine bodyPost_ret (results_cell_row rfl _ _ (gb + 1) 27 (g8 g (some ⟨es, 0, none⟩) c1 r2 m2 q3 c3 r4 m4 r5 m5 r6 m6 r7 m7) (0, 0) _ rfl (HRX.out.setRow' _) Tryz.underlying27 rfl kW) rfl ?_
   have hsw : { g9 with co := Qco (List.map (mI (tau i))) g.co g.co.length } = swp g i := by
    rw [Qp6, ← HGN.out]
    unfold swp
    rw [HEA.out, HEB.out]
   have HO := HSX.out.o
   rw [hsw] at HO
   refine ⟨UU, ?_, (HO.elder (b := gb + 1) (by have := HSX.out.lo; omega) _).lo (by have := HSX.out.lo; omega), ?_⟩
   ·rw [← HUU.out]
    rfl
   ·exact HSX.out.b.trans (Qan _ oW)
end Go.Proofs.YtdkogbfamdnheaaGreatDoor
