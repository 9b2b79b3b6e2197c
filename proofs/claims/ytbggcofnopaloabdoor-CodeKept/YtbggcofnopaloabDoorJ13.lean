/- Lists of instructions and of words in memory. -/
import Derived.Test.YtbggcofnopaloabDoorJ12
import Derived.Maps.AppendAt
import Derived.OwnWalk
namespace Go.Proofs.YtbggcofnopaloabDoor
open Go.RowKit Sx
structure InsAt (W : World) (b o : Nat) (i : Ins) : Prop where
  p0 : W.cell? ⟨b, o, none⟩ = some (.int .i64 i.op)
  p1 : W.cell? ⟨b, o + 1, none⟩ = some (.int .i64 i.rd)
  p2 : W.cell? ⟨b, o + 2, none⟩ = some (.int .i64 i.rn)
  p3 : W.cell? ⟨b, o + 3, none⟩ = some (.int .i64 i.rm)
  p4 : W.cell? ⟨b, o + 4, none⟩ = some (.int .i64 i.imm)
  p5 : W.cell? ⟨b, o + 5, none⟩ = some (.int .i64 i.cond)
theorem InsAt.below {W W' : World} {b o n : Nat} {i : Ins} (h : InsAt W b o i) (hb : Below n W W') (hn : b < n) : InsAt W' b o i :=
  ⟨(hb.cell (p := ⟨b, o, none⟩) hn).trans h.p0, (hb.cell (p := ⟨b, o + 1, none⟩) hn).trans h.p1, (hb.cell (p := ⟨b, o + 2, none⟩) hn).trans h.p2, (hb.cell (p := ⟨b, o + 3, none⟩) hn).trans h.p3, (hb.cell (p := ⟨b, o + 4, none⟩) hn).trans h.p4, (hb.cell (p := ⟨b, o + 5, none⟩) hn).trans h.p5⟩
structure InsB (W : World) (b o : Nat) (l : List Ins) : Prop where
  lt : b < W.heap.size
  at_ : ∀ (j : Nat) (i : Ins), l[j]? = some i → InsAt W b (o + j * 6) i
def InssR (W : World) (v : Value) (l : List Ins) : Prop := (∃ a cap, v = .slice a 0 cap ∧ l = []) ∨ ∃ b o cap, v = .slice (some ⟨b, o, none⟩) l.length cap ∧ InsB W b o l
structure U32B (W : World) (b o : Nat) (l : List Nat) : Prop where
  lt : b < W.heap.size
  at_ : ∀ (j x : Nat), l[j]? = some x → W.cell? ⟨b, o + j, none⟩ = some (.int .u32 (x : Int))
def U32sR (W : World) (v : Value) (l : List Nat) : Prop := (∃ a cap, v = .slice a 0 cap ∧ l = []) ∨ ∃ b o cap, v = .slice (some ⟨b, o, none⟩) l.length cap ∧ U32B W b o l
theorem InsB.below {W W' : World} {b o n : Nat} {l : List Ins} (h : InsB W b o l) (hb : Below n W W') (hn : b < n) : InsB W' b o l :=
  ⟨Nat.lt_of_lt_of_le h.lt hb.size, fun j i hj => (h.at_ j i hj).below hb hn⟩
theorem U32B.below {W W' : World} {b o n : Nat} {l : List Nat} (h : U32B W b o l) (hb : Below n W W') (hn : b < n) : U32B W' b o l :=
  ⟨Nat.lt_of_lt_of_le h.lt hb.size, fun j x hj => (hb.cell (p := ⟨b, o + j, none⟩) hn).trans (h.at_ j x hj)⟩
theorem InsB.step {W W' : World} {b o : Nat} {l : List Ins} (h : InsB W b o l) (hb : Below W.heap.size W W') : InsB W' b o l := h.below hb h.lt
theorem U32B.step {W W' : World} {b o : Nat} {l : List Nat} (h : U32B W b o l) (hb : Below W.heap.size W W') : U32B W' b o l := h.below hb h.lt
theorem InssR.step {W W' : World} {v : Value} {l : List Ins} (h : InssR W v l) (hb : Below W.heap.size W W') : InssR W' v l := by
  rcases h with h | ⟨b, o, cap, e, h⟩
  · exact .inl h
  · exact .inr ⟨b, o, cap, e, h.step hb⟩
theorem U32sR.step {W W' : World} {v : Value} {l : List Nat} (h : U32sR W v l) (hb : Below W.heap.size W W') : U32sR W' v l := by
  rcases h with h | ⟨b, o, cap, e, h⟩
  · exact .inl h
  · exact .inr ⟨b, o, cap, e, h.step hb⟩
theorem InssR.form {W : World} {v : Value} {l : List Ins} (h : InssR W v l) : ∃ p cap, v = .slice p l.length cap ∧ (0 < l.length → ∃ b o, p = some ⟨b, o, none⟩ ∧ InsB W b o l) := by
  rcases h with ⟨a, cap, rfl, rfl⟩ | ⟨b, o, cap, rfl, h⟩
  · exact ⟨a, cap, rfl, fun h => by cases h⟩
  · exact ⟨_, cap, rfl, fun _ => ⟨b, o, rfl, h⟩⟩
theorem U32sR.form {W : World} {v : Value} {l : List Nat} (h : U32sR W v l) : ∃ p cap, v = .slice p l.length cap ∧ (0 < l.length → ∃ b o, p = some ⟨b, o, none⟩ ∧ U32B W b o l) := by
  rcases h with ⟨a, cap, rfl, rfl⟩ | ⟨b, o, cap, rfl, h⟩
  · exact ⟨a, cap, rfl, fun h => by cases h⟩
  · exact ⟨_, cap, rfl, fun _ => ⟨b, o, rfl, h⟩⟩
def encU (l : List Nat) : List Value := l.map fun x => .int .u32 ((x : Nat) : Int)
def encIs (l : List Ins) : List Value := l.flatMap fun i => (insC i).toList
theorem encU_snoc (l : List Nat) (x : Nat) : encU (l ++ [x]) = encU l ++ [.int .u32 ((x : Nat) : Int)] := by simp [encU]
theorem encIs_snoc (l : List Ins) (i : Ins) : encIs (l ++ [i]) = encIs l ++ (insC i).toList := by simp [encIs]
theorem encIs_at : ∀ (l : List Ins) (j : Nat) (i : Ins), l[j]? = some i → ∀ f v, (insC i).toList[f]? = some v → (encIs l)[j * 6 + f]? = some v
  | [], j, i, h, _, _, _ => by cases h
  | i0 :: l, 0, i, h, f, v, hv => by
    obtain rfl : i0 = i := by simpa using h
    have e : encIs (i0 :: l) = (insC i0).toList ++ encIs l := by simp [encIs]
    have hf : f < (insC i0).toList.length := (List.getElem?_eq_some_iff.1 hv).1
    rw [e, Nat.zero_mul, Nat.zero_add, List.getElem?_append_left hf]
    exact hv
  | i0 :: l, j + 1, i, h, f, v, hv => by
    have e : encIs (i0 :: l) = (insC i0).toList ++ encIs l := by simp [encIs]
    have ih := encIs_at l j i (by simpa using h) f v hv
    have hl : (insC i0).toList.length = 6 := rfl
    rw [e, List.getElem?_append_right (by rw [hl]; omega), hl]
    rw [show (j + 1) * 6 + f - 6 = j * 6 + f by omega]
    exact ih
theorem owns_u32 {W : World} {base : Nat} {v : Value} {l : List Nat} (h : W.ownsRow base 22 1 v l.length (encU l)) : U32sR W v l := by
  rcases h.2 with ⟨rfl, e⟩ | ⟨g, cap, cur, rfl, hg, hb, h1, h2, h3, h4⟩
  · exact .inl ⟨none, 0, by rfl, List.eq_nil_of_length_eq_zero e⟩
  · refine .inr ⟨g, 0, cap, rfl, (Array.getElem?_eq_some_iff.1 hb).1, fun j x hj => ?_⟩
    have hj2 : j < l.length := (List.getElem?_eq_some_iff.1 hj).1
    have : cur[j]? = some (.int .u32 (x : Int)) := by
      have h5 : (encU l)[j]? = some (.int .u32 (x : Int)) := by simp [encU, hj]
      rw [← h4, List.getElem?_take, if_pos (by omega)] at h5
      simpa using h5
    rw [Nat.zero_add]
    exact Blk.cell hb this
theorem owns_ins {W : World} {base : Nat} {v : Value} {l : List Ins} (h : W.ownsRow base 25 6 v l.length (encIs l)) : InssR W v l := by
  rcases h.2 with ⟨rfl, e⟩ | ⟨g, cap, cur, rfl, hg, hb, h1, h2, h3, h4⟩
  · exact .inl ⟨none, 0, by rfl, List.eq_nil_of_length_eq_zero e⟩
  · refine .inr ⟨g, 0, cap, rfl, (Array.getElem?_eq_some_iff.1 hb).1, fun j i hj => ?_⟩
    have hj2 : j < l.length := (List.getElem?_eq_some_iff.1 hj).1
    have key : ∀ f u, f < 6 → (insC i).toList[f]? = some u → W.cell? ⟨g, 0 + j * 6 + f, none⟩ = some u := fun f u hf hu => by
      have h5 := encIs_at l j i hj f u hu
      rw [← h4, List.getElem?_take, if_pos (by omega)] at h5
      rw [Nat.zero_add]
      exact Blk.cell hb (by simpa using h5)
    exact ⟨key 0 _ (by omega) rfl, key 1 _ (by omega) rfl, key 2 _ (by omega) rfl, key 3 _ (by omega) rfl, key 4 _ (by omega) rfl, key 5 _ (by omega) rfl⟩
theorem Tryd.infou32 : (Tryd.prog.info? 22).map (fun i => (i.zero, i.size, i.bytes)) = some (some (.int .u32 0), 1, 4) := by kernel_rfl
theorem Tryd.infoins : (Tryd.prog.info? 25).map (fun i => (i.zero, i.size, i.bytes)) = some (some (insV zeroI), 6, 48) := by kernel_rfl
theorem make_u32s (n : Nat) (h : n ≤ 65536) (w : World) : (Instr.makeSlice 34 (.int .i64 0) (.int .i64 n)).run Tryd.prog w = .ok (.slice (some ⟨w.heap.size, 0, none⟩) 0 n) (w.alloc (.cells (madeCells #[.int .u32 0] n) 22)) := by
  obtain ⟨i, hx, hz, hs, hb⟩ := info_parts Tryd.infou32
  have := run_make (P := Tryd.prog) w 34 22 i _ Tryd.underlying34 hx hz .i64 .i64 0 n (by omega) (by omega) (by rw [hb]; omega) (by omega)
  rw [this, hs, Int.toNat_natCast, Nat.mul_one]
  rfl
theorem make_inss (n : Nat) (h : n ≤ 65536) (w : World) : (Instr.makeSlice 33 (.int .i64 0) (.int .i64 n)).run Tryd.prog w = .ok (.slice (some ⟨w.heap.size, 0, none⟩) 0 n) (w.alloc (.cells (madeCells (insC zeroI) (n * 6)) 25)) := by
  obtain ⟨i, hx, hz, hs, hb⟩ := info_parts Tryd.infoins
  have := run_make (P := Tryd.prog) w 33 25 i _ Tryd.underlying33 hx hz .i64 .i64 0 n (by omega) (by omega) (by rw [hb]; omega) (by omega)
  rw [this, hs, Int.toNat_natCast]
  rfl
theorem owns_made {w : World} {e : TypeId} {size n : Nat} {cur : Array Value} (hc : cur.size = n * size) (hn : n ≤ maxLen) : (w.alloc (.cells cur e)).ownsRow w.heap.size e size (.slice (some ⟨w.heap.size, 0, none⟩) 0 n) 0 [] :=
  ⟨by simp, .inr ⟨w.heap.size, n, cur, rfl, Nat.le_refl _, Blk.new w e cur, Nat.zero_le _, hn, hc, by simp⟩⟩
theorem owns_below' {w w' : World} {base : Nat} {e : TypeId} {size : Nat} {v : Value} {n : Nat} {xs : List Value} (h : w.ownsRow base e size v n xs) (hb : Below w.heap.size w w') : w'.ownsRow base e size v n xs := by
  refine ⟨h.1, ?_⟩
  rcases h.2 with h | ⟨g, cap, cur, h1, h2, h3, h4⟩
  · exact .inl h
  · exact .inr ⟨g, cap, cur, h1, h2, (hb.block g (Array.getElem?_eq_some_iff.1 h3).1).trans h3, h4⟩
theorem owns_lo {w : World} {base b' : Nat} {e : TypeId} {size : Nat} {v : Value} {n : Nat} {xs : List Value} (h : w.ownsRow base e size v n xs) (hb : b' ≤ base) : w.ownsRow b' e size v n xs := by
  refine ⟨h.1, ?_⟩
  rcases h.2 with h2 | ⟨g, cap, cur, h3, h4, h5⟩
  · exact .inl h2
  · exact .inr ⟨g, cap, cur, h3, by omega, h5⟩
end Go.Proofs.YtbggcofnopaloabDoor
namespace Go.Proofs.YtbggcofnopaloabDoor
open Go.RowKit Sx
def turnWAns (w : World) (l : List Ins) (e : Ending) (w' : World) : Prop := Below w.heap.size w w' ∧
  ((16384 < l.length ∧ e = .returned (.tuple #[.slice none 0 0, .int .i64 16384, .int .i64 2])) ∨ (l.length ≤ 16384 ∧
    ((∃ (k : Nat) (x : Ins), l[k]? = some x ∧ encI x = none ∧ (∀ (j : Nat) (y : Ins), j < k → l[j]? = some y → (encI y).isSome = true) ∧ e = .returned (.tuple #[.slice none 0 0, .int .i64 (k : Int), .int .i64 7])) ∨
     ((∀ (j : Nat) (y : Ins), j < l.length → l[j]? = some y → (encI y).isSome = true) ∧ ∃ v, e = .returned (.tuple #[v, .int .i64 0, .int .i64 0]) ∧ w'.ownsRow w.heap.size 22 1 v l.length (encU (l.map fun x => (encI x).getD 0))))))
structure turnWAt (w : World) (l : List Ins) (k : Nat) (v : Value) (W : World) : Prop where
  own : W.ownsRow w.heap.size 22 1 v k (encU ((l.take k).map fun x => (encI x).getD 0))
  pre : Pre w.heap.size w W
  good : ∀ (j : Nat) (y : Ins), j < k → l[j]? = some y → (encI y).isSome = true
theorem turnWAt.new {w : World} (hT : Tb w) (l : List Ins) (n : Nat) (hn : n ≤ 65536) : turnWAt w l 0 (.slice (some ⟨w.heap.size, 0, none⟩) 0 n) (w.alloc (.cells (madeCells #[.int .u32 0] n) 22)) := by
  have hb := (Below.refl w.heap.size w).alloc (Nat.le_refl _) (.cells (madeCells #[.int .u32 0] n) 22)
  refine ⟨?_, (Pre.refl hT).step hb, fun j y hj => absurd hj (by omega)⟩
  exact owns_made (by rw [size_madeCells, Nat.mul_one]) (by unfold maxLen; omega)
theorem turnWAt.next {w W W' : World} {l : List Ins} {k : Nat} {v v' : Value} {x : Ins} {y : Nat} (h : turnWAt w l k v W) (hx : l[k]? = some x) (hy : encI x = some y) (hP : Pre w.heap.size w W') (ho : W'.ownsRow w.heap.size 22 1 v' (k + 1) (encU ((l.take k).map fun x => (encI x).getD 0) ++ [.int .u32 (y : Int)])) : turnWAt w l (k + 1) v' W' := by
  refine ⟨?_, hP, fun j z hj hz => ?_⟩
  · have hk : k < l.length := (List.getElem?_eq_some_iff.1 hx).1
    have e : (l.take (k + 1)).map (fun x => (encI x).getD 0) = (l.take k).map (fun x => (encI x).getD 0) ++ [y] := by
      rw [List.take_add_one, hx, List.map_append]
      simp [hy]
    rw [e, encU_snoc]
    exact ho
  · by_cases e : j = k
    · subst e
      rw [hx] at hz
      obtain rfl := Option.some.inj hz
      rw [hy]
      rfl
    · exact h.good j z (by omega) hz
theorem news_u32 (w : World) (x : Nat) : ∀ j u, ([.int .u32 (x : Int)] : List Value)[j]? = some u → (w.alloc (.cells #[.int .u32 (x : Int)] 22)).cell? ((⟨w.heap.size, 0, none⟩ : Addr).add j) = some u := by
  intro j u hj
  rw [Addr.add_lit, Nat.zero_add]
  exact (Blk.new w 22 #[.int .u32 (x : Int)]).cell (by simpa using hj)
theorem news_ins (w : World) (i : Ins) : ∀ j u, (insC i).toList[j]? = some u → (w.alloc (.cells (insC i) 25)).cell? ((⟨w.heap.size, 0, none⟩ : Addr).add j) = some u := by
  intro j u hj
  rw [Addr.add_lit, Nat.zero_add]
  exact (Blk.new w 25 (insC i)).cell (by simpa using hj)
theorem owns_len {w : World} {base : Nat} {e : TypeId} {size : Nat} {v : Value} {n : Nat} {xs : List Value} (h : w.ownsRow base e size v n xs) : ∃ a cap, v = .slice a n cap := by
  rcases h.2 with ⟨rfl, rfl⟩ | ⟨g, cap, cur, rfl, _⟩
  · exact ⟨_, _, rfl⟩
  · exact ⟨_, _, rfl⟩
theorem pre_grown {w W W' : World} {e : TypeId} {size : Nat} {v : Value} {n : Nat} {xs : List Value} {o : Obj} (h : Pre w.heap.size w W) (ho : W.ownsRow w.heap.size e size v n xs) (hg : (W.alloc o).grownBy W' v.ownBlock) (hw : 0 < w.heap.size) : Pre w.heap.size w W' := by
  have hb : Below w.heap.size w W' := (h.bel.alloc h.le o).grown hg (by have := h.le; simp; omega) (fun q e => (ho.lt q e).1)
  have hT := h.tb
  have hz := hg.size
  rw [World.size_alloc] at hz
  refine ⟨?_, hb, by have := h.le; omega⟩
  have h0 : Below 1 W W' := ((Below.refl 1 W).alloc hT.lt o).grown hg (by have := hT.lt; simp only [World.size_alloc]; omega) (fun q e => by have := (ho.lt q e).1; omega)
  exact hT.below (by decide) h0
set_option maxRecDepth 100000 in
set_option maxHeartbeats 8000000 in
theorem turnW_calls (v : Value) (l : List Ins) (w : World) (hT : Tb w) (hv : InssR w v l) (hop : ∀ i ∈ l, -9223372036854775808 ≤ i.op ∧ i.op ≤ 9223372036854775807) (hlen : l.length ≤ 9223372036854775807) :
    Calls Tryd.prog 24 #[v, .func (.func 10) #[] #[]] w (turnWAns w l) := by
  obtain ⟨p, cap, rfl, hp⟩ := hv.form
  by_cases hbig : 16384 < l.length
  · have hb2 : (16384 : Int) < (l.length : Int) := by omega
    have HA : Hid (turnWAns w l (.returned (.tuple #[.slice none 0 0, .int .i64 16384, .int .i64 2])) w) := ⟨Below.refl _ _, .inl ⟨hbig, rfl⟩⟩
    clear hbig hp hv hT hop
    go_enter Tryd.func24, Tryd.ntmps24
    go_wp2_with fail
    go_ret3
    exact HA.out
  · have hb2 : decide ((16384 : Int) < (l.length : Int)) = false := by simp; omega
    have hmk := make_u32s l.length (by omega)
    obtain ⟨i0, hi, hz0, hz1, hz2⟩ := info_parts Tryd.infou32
    have HP := hid_of hp
    have HT0 := hid_of hT.lt
    have HN := hid_of (turnWAt.new hT l l.length (by omega))
    clear hp hv hT
    go_enter Tryd.func24, Tryd.ntmps24
    go_upto_region 5 with fail
    go_loopw [4, 19] (fun ov i wr => ∃ k : Nat, i = .int .i64 (k : Int) ∧ k ≤ l.length ∧ Hid (turnWAt w l k ov wr)) (fun _ i _ => l.length - (intOf i).toNat)
    case atStart => exact ⟨0, rfl, Nat.zero_le _, HN⟩
    case round =>
      obtain ⟨k, rfl, hk, HA⟩ := hrel
      by_cases hlt : k < l.length
      · obtain ⟨b, o, rfl, hB⟩ := HP.out (by omega)
        obtain ⟨x, hx⟩ : ∃ x, l[k]? = some x := ⟨_, List.getElem?_eq_getElem hlt⟩
        obtain ⟨op, rd, rn, rm, imm, cond⟩ := x
        obtain ⟨c0, c1, c2, c3, c4, c5⟩ := (hB.below HA.out.pre.bel hB.lt).at_ k _ hx
        dsimp only at c0 c1 c2 c3 c4 c5
        have hxo := hop _ (List.mem_of_getElem? hx)
        cases hd : encI ⟨op, rd, rn, rm, imm, cond⟩ with
        | none =>
          have HD := hid_of hd
          have hc : ∀ W, Tb W → Calls Tryd.prog 10 #[.agg #[.int .i64 op, .int .i64 rd, .int .i64 rn, .int .i64 rm, .int .i64 imm, .int .i64 cond]] W fun e w' => e = .returned (.tuple #[.int .u32 0, .int .i64 7]) ∧ Below W.heap.size W w' := fun W h => by
            have := cdEncode_calls ⟨op, rd, rn, rm, imm, cond⟩ W h hxo
            rw [hd] at this
            exact this
          clear hd hxo hB hop
          go_upto_region 7 with (refine wpList_store_row rfl 25 _ _ rfl wr.heap.size (insC ⟨op, rd, rn, rm, imm, cond⟩) rfl rfl 25 (insC zeroI) (Blk.new wr _ _) (by kernel_rfl) rfl (insC_all _) ?_)
          have hO := HA.out.pre.row ⟨op, rd, rn, rm, imm, cond⟩ (insC zeroI)
          have hA5 := HA.out.pre.step (row_new wr (insC ⟨op, rd, rn, rm, imm, cond⟩) (insC zeroI)).2
          have HOW := hid_of (owns_below' HA.out.own (row_new wr (insC ⟨op, rd, rn, rm, imm, cond⟩) (insC zeroI)).2)
          have HP5 := hid_of hA5
          generalize hw : (wr.alloc (.cells (insC zeroI) 25)).setRow wr.heap.size (insC ⟨op, rd, rn, rm, imm, cond⟩) = w5 at *
          have hw' : (wr.alloc (.cells #[.int .i64 0, .int .i64 0, .int .i64 0, .int .i64 0, .int .i64 0, .int .i64 0] 25)).setRow wr.heap.size (insC ⟨op, rd, rn, rm, imm, cond⟩) = w5 := hw
          have hw'' : (wr.alloc (.cells #[.int .i64 0, .int .i64 0, .int .i64 0, .int .i64 0, .int .i64 0, .int .i64 0] 25)).setRow wr.heap.size #[.int .i64 op, .int .i64 rd, .int .i64 rn, .int .i64 rm, .int .i64 imm, .int .i64 cond] = w5 := hw
          try first | rw [hw'] | rw [hw'']
          clear hw hw' hw''
          obtain ⟨d0, d1, d2, d3, d4, d5⟩ := InS.of hO.a
          dsimp only at d0 d1 d2 d3 d4 d5
          clear hO hA5 c0 c1 c2 c3 c4 c5
          go_wp2_with (first | (go_at_call 10; refine (hc _ HP5.out.tb).mono ?_; rintro e w6 ⟨rfl, hB6⟩; have HP6 := hid_of (HP5.out.step hB6); have HO6 := hid_of (owns_below' HOW.out hB6); clear hB6))
          go_ret3
          exact ⟨HP6.out.bel, .inr ⟨by omega, .inl ⟨k, ⟨op, rd, rn, rm, imm, cond⟩, hx, HD.out, HA.out.good, rfl⟩⟩⟩
        | some y =>
          have HD := hid_of hd
          have hc : ∀ W, Tb W → Calls Tryd.prog 10 #[.agg #[.int .i64 op, .int .i64 rd, .int .i64 rn, .int .i64 rm, .int .i64 imm, .int .i64 cond]] W fun e w' => e = .returned (.tuple #[.int .u32 (y : Int), .int .i64 0]) ∧ Below W.heap.size W w' := fun W h => by
            have := cdEncode_calls ⟨op, rd, rn, rm, imm, cond⟩ W h hxo
            rw [hd] at this
            exact this
          clear hd hxo hB hop
          go_upto_region 7 with (refine wpList_store_row rfl 25 _ _ rfl wr.heap.size (insC ⟨op, rd, rn, rm, imm, cond⟩) rfl rfl 25 (insC zeroI) (Blk.new wr _ _) (by kernel_rfl) rfl (insC_all _) ?_)
          have hO := HA.out.pre.row ⟨op, rd, rn, rm, imm, cond⟩ (insC zeroI)
          have hA5 := HA.out.pre.step (row_new wr (insC ⟨op, rd, rn, rm, imm, cond⟩) (insC zeroI)).2
          have HOW := hid_of (owns_below' HA.out.own (row_new wr (insC ⟨op, rd, rn, rm, imm, cond⟩) (insC zeroI)).2)
          have HP5 := hid_of hA5
          generalize hw : (wr.alloc (.cells (insC zeroI) 25)).setRow wr.heap.size (insC ⟨op, rd, rn, rm, imm, cond⟩) = w5 at *
          have hw' : (wr.alloc (.cells #[.int .i64 0, .int .i64 0, .int .i64 0, .int .i64 0, .int .i64 0, .int .i64 0] 25)).setRow wr.heap.size (insC ⟨op, rd, rn, rm, imm, cond⟩) = w5 := hw
          have hw'' : (wr.alloc (.cells #[.int .i64 0, .int .i64 0, .int .i64 0, .int .i64 0, .int .i64 0, .int .i64 0] 25)).setRow wr.heap.size #[.int .i64 op, .int .i64 rd, .int .i64 rn, .int .i64 rm, .int .i64 imm, .int .i64 cond] = w5 := hw
          try first | rw [hw'] | rw [hw'']
          clear hw hw' hw''
          obtain ⟨d0, d1, d2, d3, d4, d5⟩ := InS.of hO.a
          dsimp only at d0 d1 d2 d3 d4 d5
          clear hO hA5 c0 c1 c2 c3 c4 c5
          have hlk : k ≤ 16384 := by omega
          obtain ⟨oa, ocap, rfl⟩ := owns_len HA.out.own
          generalize hxs : encU ((l.take k).map fun x => (encI x).getD 0) = xs at HOW
          go_wp2_with (first | (go_at_call 10; refine (hc _ HP5.out.tb).mono ?_; rintro e w6 ⟨rfl, hB6⟩; have HP6 := hid_of (HP5.out.step hB6); have HO6 := hid_of (owns_below' HOW.out hB6); clear hB6) | (at_builtin; refine wpList_append_own_at _ rfl _ _ 34 rfl w.heap.size 22 i0 (.int .u32 0) 1 4 Tryd.underlying34 hi hz0 hz1 hz2 rfl (by decide) (.slice oa k ocap) k xs rfl (HO6.out.alloc _) ⟨_, 0, none⟩ 1 1 [.int .u32 (y : Int)] rfl rfl (news_u32 w6 y) (by simp [Value.oneCell']) (by unfold maxLen; omega) (by omega) (by have := HP6.out.le; simp; omega) ?_; intro v7 w7 hown' hgrow _ _))
          have hP7 : Pre w.heap.size w w7 := pre_grown HP6.out HO6.out hgrow HT0.out
          rw [← hxs] at hown'
          exact ⟨⟨k + 1, by go_num, by omega, hid_of (HA.out.next hx HD.out hP7 hown')⟩, by simp [intOf]; omega⟩
      · obtain rfl : k = l.length := by omega
        obtain ⟨oa, ocap, rfl⟩ := owns_len HA.out.own
        go_wp2_with fail
        go_ret3
        refine ⟨HA.out.pre.bel, .inr ⟨by omega, .inr ⟨HA.out.good, _, rfl, ?_⟩⟩⟩
        have := HA.out.own
        rw [List.take_length] at this
        exact this
end Go.Proofs.YtbggcofnopaloabDoor
namespace Go.Proofs.YtbggcofnopaloabDoor
open Go.RowKit Sx
def turnLAns (w : World) (l : List Nat) (e : Ending) (w' : World) : Prop := Below w.heap.size w w' ∧
  ((16384 < l.length ∧ e = .returned (.tuple #[.slice none 0 0, .int .i64 16384, .int .i64 2])) ∨ (l.length ≤ 16384 ∧
    ((∃ (k : Nat) (x : Nat), l[k]? = some x ∧ decA x = none ∧ (∀ (j : Nat) (y : Nat), j < k → l[j]? = some y → (decA y).isSome = true) ∧ e = .returned (.tuple #[.slice none 0 0, .int .i64 (k : Int), .int .i64 7])) ∨
     ((∀ (j : Nat) (y : Nat), j < l.length → l[j]? = some y → (decA y).isSome = true) ∧ ∃ v, e = .returned (.tuple #[v, .int .i64 0, .int .i64 0]) ∧ w'.ownsRow w.heap.size 25 6 v l.length (encIs (l.map fun x => (decA x).getD zeroI))))))
structure turnLAt (w : World) (l : List Nat) (k : Nat) (v : Value) (W : World) : Prop where
  own : W.ownsRow w.heap.size 25 6 v k (encIs ((l.take k).map fun x => (decA x).getD zeroI))
  pre : Pre w.heap.size w W
  good : ∀ (j : Nat) (y : Nat), j < k → l[j]? = some y → (decA y).isSome = true
theorem turnLAt.new {w : World} (hT : Tb w) (l : List Nat) (n : Nat) (hn : n ≤ 65536) : turnLAt w l 0 (.slice (some ⟨w.heap.size, 0, none⟩) 0 n) (w.alloc (.cells (madeCells (insC zeroI) (n * 6)) 25)) := by
  have hb := (Below.refl w.heap.size w).alloc (Nat.le_refl _) (.cells (madeCells (insC zeroI) (n * 6)) 25)
  refine ⟨?_, (Pre.refl hT).step hb, fun j y hj => absurd hj (by omega)⟩
  exact owns_made (by rw [size_madeCells]) (by unfold maxLen; omega)
theorem turnLAt.next {w W W' : World} {l : List Nat} {k : Nat} {v v' : Value} {x : Nat} {y : Ins} (h : turnLAt w l k v W) (hx : l[k]? = some x) (hy : decA x = some y) (hP : Pre w.heap.size w W') (ho : W'.ownsRow w.heap.size 25 6 v' (k + 1) (encIs ((l.take k).map fun x => (decA x).getD zeroI) ++ (insC y).toList)) : turnLAt w l (k + 1) v' W' := by
  refine ⟨?_, hP, fun j z hj hz => ?_⟩
  · have hk : k < l.length := (List.getElem?_eq_some_iff.1 hx).1
    have e : (l.take (k + 1)).map (fun x => (decA x).getD zeroI) = (l.take k).map (fun x => (decA x).getD zeroI) ++ [y] := by
      rw [List.take_add_one, hx, List.map_append]
      simp [hy]
    rw [e, encIs_snoc]
    exact ho
  · by_cases e : j = k
    · subst e
      rw [hx] at hz
      obtain rfl := Option.some.inj hz
      rw [hy]
      rfl
    · exact h.good j z (by omega) hz
set_option maxRecDepth 100000 in
set_option maxHeartbeats 8000000 in
theorem turnL_calls (v : Value) (l : List Nat) (w : World) (hT : Tb w) (hv : U32sR w v l) (hop : ∀ x ∈ l, x < 4294967296) (hlen : l.length ≤ 9223372036854775807) :
    Calls Tryd.prog 30 #[v, .func (.func 9) #[] #[]] w (turnLAns w l) := by
  obtain ⟨p, cap, rfl, hp⟩ := hv.form
  by_cases hbig : 16384 < l.length
  · have hb2 : (16384 : Int) < (l.length : Int) := by omega
    have HA : Hid (turnLAns w l (.returned (.tuple #[.slice none 0 0, .int .i64 16384, .int .i64 2])) w) := ⟨Below.refl _ _, .inl ⟨hbig, rfl⟩⟩
    clear hbig hp hv hT hop
    go_enter Tryd.func30, Tryd.ntmps30
    go_wp2_with fail
    go_ret3
    exact HA.out
  · have hb2 : decide ((16384 : Int) < (l.length : Int)) = false := by simp; omega
    have hmk := make_inss l.length (by omega)
    obtain ⟨i0, hi, hz0, hz1, hz2⟩ := info_parts Tryd.infoins
    have HP := hid_of hp
    have HT0 := hid_of hT.lt
    have HN := hid_of (turnLAt.new hT l l.length (by omega))
    clear hp hv hT
    go_enter Tryd.func30, Tryd.ntmps30
    go_upto_region 5 with fail
    go_loopw [4, 19] (fun ov i wr => ∃ k : Nat, i = .int .i64 (k : Int) ∧ k ≤ l.length ∧ Hid (turnLAt w l k ov wr)) (fun _ i _ => l.length - (intOf i).toNat)
    case atStart => exact ⟨0, rfl, Nat.zero_le _, HN⟩
    case round =>
      obtain ⟨k, rfl, hk, HA⟩ := hrel
      by_cases hlt : k < l.length
      · obtain ⟨b, o, rfl, hB⟩ := HP.out (by omega)
        obtain ⟨x, hx⟩ : ∃ x, l[k]? = some x := ⟨_, List.getElem?_eq_getElem hlt⟩
        have c0 := (hB.below HA.out.pre.bel hB.lt).at_ k _ hx
        have hxo := hop _ (List.mem_of_getElem? hx)
        cases hd : decA x with
        | none =>
          have HD := hid_of hd
          have hc : ∀ W, Tb W → Calls Tryd.prog 9 #[.int .u32 (x : Int)] W fun e w' => e = .returned (.tuple #[.agg (insC zeroI), .int .i64 7]) ∧ Below W.heap.size W w' := fun W h => by
            have := cdDecode_calls x W hxo h
            unfold DecE at this
            rw [hd] at this
            exact this
          clear hd hxo hB hop
          go_upto_region 8 with (first | (go_at_call 9; refine (hc _ HA.out.pre.tb).mono ?_; rintro e w6 ⟨rfl, hB6⟩; have HP6 := hid_of (HA.out.pre.step hB6); have HO6 := hid_of (owns_below' HA.out.own hB6); clear hB6) | (refine wpList_store_row rfl 25 _ _ rfl w6.heap.size (insC zeroI) rfl rfl 25 (insC zeroI) (Blk.new w6 _ _) (by kernel_rfl) rfl (insC_all _) ?_))
          have hP7 := HP6.out.step (row_new w6 (insC zeroI) (insC zeroI)).2
          have HP7 := hid_of hP7
          generalize hw : (w6.alloc (.cells (insC zeroI) 25)).setRow w6.heap.size (insC zeroI) = w7 at *
          have hw' : (w6.alloc (.cells #[.int .i64 0, .int .i64 0, .int .i64 0, .int .i64 0, .int .i64 0, .int .i64 0] 25)).setRow w6.heap.size (insC zeroI) = w7 := hw
          have hw'' : (w6.alloc (.cells #[.int .i64 0, .int .i64 0, .int .i64 0, .int .i64 0, .int .i64 0, .int .i64 0] 25)).setRow w6.heap.size #[.int .i64 0, .int .i64 0, .int .i64 0, .int .i64 0, .int .i64 0, .int .i64 0] = w7 := hw
          try first | rw [hw'] | rw [hw'']
          clear hw hw' hw''
          clear hP7
          go_wp2_with fail
          go_ret3
          exact ⟨HP7.out.bel, .inr ⟨by omega, .inl ⟨k, x, hx, HD.out, HA.out.good, rfl⟩⟩⟩
        | some y =>
          have HD := hid_of hd
          have hc : ∀ W, Tb W → Calls Tryd.prog 9 #[.int .u32 (x : Int)] W fun e w' => e = .returned (.tuple #[.agg (insC y), .int .i64 0]) ∧ Below W.heap.size W w' := fun W h => by
            have := cdDecode_calls x W hxo h
            unfold DecE at this
            rw [hd] at this
            exact this
          clear hd hxo hB hop
          have hlk : k ≤ 16384 := by omega
          obtain ⟨oa, ocap, rfl⟩ := owns_len HA.out.own
          obtain ⟨op, rd, rn, rm, imm, cond⟩ := y
          go_upto_region 8 with (first | (go_at_call 9; refine (hc _ HA.out.pre.tb).mono ?_; rintro e w6 ⟨rfl, hB6⟩; have HP6 := hid_of (HA.out.pre.step hB6); have HO6 := hid_of (owns_below' HA.out.own hB6); clear hB6) | (refine wpList_store_row rfl 25 _ _ rfl w6.heap.size (insC ⟨op, rd, rn, rm, imm, cond⟩) rfl rfl 25 (insC zeroI) (Blk.new w6 _ _) (by kernel_rfl) rfl (insC_all _) ?_))
          have hO := HP6.out.row ⟨op, rd, rn, rm, imm, cond⟩ (insC zeroI)
          have HP7 := hid_of (HP6.out.step (row_new w6 (insC ⟨op, rd, rn, rm, imm, cond⟩) (insC zeroI)).2)
          have HO7 := hid_of (owns_below' HO6.out (row_new w6 (insC ⟨op, rd, rn, rm, imm, cond⟩) (insC zeroI)).2)
          generalize hw : (w6.alloc (.cells (insC zeroI) 25)).setRow w6.heap.size (insC ⟨op, rd, rn, rm, imm, cond⟩) = w7 at *
          have hw' : (w6.alloc (.cells #[.int .i64 0, .int .i64 0, .int .i64 0, .int .i64 0, .int .i64 0, .int .i64 0] 25)).setRow w6.heap.size (insC ⟨op, rd, rn, rm, imm, cond⟩) = w7 := hw
          have hw'' : (w6.alloc (.cells #[.int .i64 0, .int .i64 0, .int .i64 0, .int .i64 0, .int .i64 0, .int .i64 0] 25)).setRow w6.heap.size #[.int .i64 op, .int .i64 rd, .int .i64 rn, .int .i64 rm, .int .i64 imm, .int .i64 cond] = w7 := hw
          try first | rw [hw'] | rw [hw'']
          clear hw hw' hw''
          obtain ⟨d0, d1, d2, d3, d4, d5⟩ := InS.of hO.a
          dsimp only at d0 d1 d2 d3 d4 d5
          clear hO
          generalize hxs : encIs ((l.take k).map fun x => (decA x).getD zeroI) = xs at HO7
          go_wp2_with (at_builtin; refine wpList_append_own_at _ rfl _ _ 33 rfl w.heap.size 25 i0 (insV zeroI) 6 48 Tryd.underlying33 hi hz0 hz1 hz2 rfl (by decide) (.slice oa k ocap) k xs rfl (HO7.out.alloc _) ⟨_, 0, none⟩ 1 1 (insC ⟨op, rd, rn, rm, imm, cond⟩).toList rfl rfl (news_ins w7 ⟨op, rd, rn, rm, imm, cond⟩) (by simp [insC, Value.oneCell']) (by unfold maxLen; omega) (by omega) (by have := HP7.out.le; simp; omega) ?_; intro v8 w8 hown' hgrow _ _)
          have hP8 : Pre w.heap.size w w8 := pre_grown HP7.out HO7.out hgrow HT0.out
          rw [← hxs] at hown'
          exact ⟨⟨k + 1, by go_num, by omega, hid_of (HA.out.next hx HD.out hP8 hown')⟩, by simp [intOf]; omega⟩
      · obtain rfl : k = l.length := by omega
        obtain ⟨oa, ocap, rfl⟩ := owns_len HA.out.own
        go_wp2_with fail
        go_ret3
        refine ⟨HA.out.pre.bel, .inr ⟨by omega, .inr ⟨HA.out.good, _, rfl, ?_⟩⟩⟩
        have := HA.out.own
        rw [List.take_length] at this
        exact this
end Go.Proofs.YtbggcofnopaloabDoor
namespace Go.Proofs.YtbggcofnopaloabDoor
open Go.RowKit Sx
theorem turnW_ok (v : Value) (l : List Ins) (w : World) (hT : Tb w) (hv : InssR w v l) (hop : ∀ i ∈ l, -9223372036854775808 ≤ i.op ∧ i.op ≤ 9223372036854775807) (hlen : l.length ≤ 9223372036854775807) (hs : l.length ≤ 16384) (hg : ∀ (j : Nat) (y : Ins), j < l.length → l[j]? = some y → (encI y).isSome = true) : Calls Tryd.prog 24 #[v, .func (.func 10) #[] #[]] w fun e w' => (∃ v', e = .returned (.tuple #[v', .int .i64 0, .int .i64 0]) ∧ w'.ownsRow w.heap.size 22 1 v' l.length (encU (l.map fun x => (encI x).getD 0))) ∧ Below w.heap.size w w' := by
  refine (turnW_calls v l w hT hv hop hlen).mono ?_
  rintro e w' ⟨hB, h⟩
  rcases h with ⟨h1, -⟩ | ⟨-, ⟨k2, x2, h2, h3, -, -⟩ | ⟨-, h2⟩⟩
  · omega
  · have := hg k2 x2 (List.getElem?_eq_some_iff.1 h2).1 h2
    rw [h3] at this
    cases this
  · obtain ⟨v', he, ho⟩ := h2
    exact ⟨⟨v', he, ho⟩, hB⟩
set_option maxRecDepth 100000 in
set_option maxHeartbeats 4000000 in
theorem words_ok (v : Value) (l : List Ins) (w : World) (hT : Tb w) (hv : InssR w v l) (hop : ∀ i ∈ l, -9223372036854775808 ≤ i.op ∧ i.op ≤ 9223372036854775807) (hlen : l.length ≤ 9223372036854775807) (hs : l.length ≤ 16384) (hg : ∀ (j : Nat) (y : Ins), j < l.length → l[j]? = some y → (encI y).isSome = true) : Calls Tryd.prog 12 #[v] w fun e w' => (∃ v', e = .returned (.tuple #[v', .int .i64 0, .int .i64 0]) ∧ w'.ownsRow w.heap.size 22 1 v' l.length (encU (l.map fun x => (encI x).getD 0))) ∧ Below w.heap.size w w' := by
  have hc := turnW_ok v l w hT hv hop hlen hs hg
  clear hT hv hop hs hg
  go_enter Tryd.func12, Tryd.ntmps12
  go_wp2_with (go_at_call 24; refine hc.mono ?_; rintro e w3 ⟨⟨v3, rfl, ho3⟩, hB3⟩)
  go_ret3
  exact ⟨⟨v3, rfl, ho3⟩, hB3⟩
theorem turnL_ok (v : Value) (l : List Nat) (w : World) (hT : Tb w) (hv : U32sR w v l) (hop : ∀ x ∈ l, x < 4294967296) (hlen : l.length ≤ 9223372036854775807) (hs : l.length ≤ 16384) (hg : ∀ (j : Nat) (y : Nat), j < l.length → l[j]? = some y → (decA y).isSome = true) : Calls Tryd.prog 30 #[v, .func (.func 9) #[] #[]] w fun e w' => (∃ v', e = .returned (.tuple #[v', .int .i64 0, .int .i64 0]) ∧ w'.ownsRow w.heap.size 25 6 v' l.length (encIs (l.map fun x => (decA x).getD zeroI))) ∧ Below w.heap.size w w' := by
  refine (turnL_calls v l w hT hv hop hlen).mono ?_
  rintro e w' ⟨hB, h⟩
  rcases h with ⟨h1, -⟩ | ⟨-, ⟨k2, x2, h2, h3, -, -⟩ | ⟨-, h2⟩⟩
  · omega
  · have := hg k2 x2 (List.getElem?_eq_some_iff.1 h2).1 h2
    rw [h3] at this
    cases this
  · obtain ⟨v', he, ho⟩ := h2
    exact ⟨⟨v', he, ho⟩, hB⟩
set_option maxRecDepth 100000 in
set_option maxHeartbeats 4000000 in
theorem list_ok (v : Value) (l : List Nat) (w : World) (hT : Tb w) (hv : U32sR w v l) (hop : ∀ x ∈ l, x < 4294967296) (hlen : l.length ≤ 9223372036854775807) (hs : l.length ≤ 16384) (hg : ∀ (j : Nat) (y : Nat), j < l.length → l[j]? = some y → (decA y).isSome = true) : Calls Tryd.prog 16 #[v] w fun e w' => (∃ v', e = .returned (.tuple #[v', .int .i64 0, .int .i64 0]) ∧ w'.ownsRow w.heap.size 25 6 v' l.length (encIs (l.map fun x => (decA x).getD zeroI))) ∧ Below w.heap.size w w' := by
  have hc := turnL_ok v l w hT hv hop hlen hs hg
  clear hT hv hop hs hg
  go_enter Tryd.func16, Tryd.ntmps16
  go_wp2_with (go_at_call 30; refine hc.mono ?_; rintro e w3 ⟨⟨v3, rfl, ho3⟩, hB3⟩)
  go_ret3
  exact ⟨⟨v3, rfl, ho3⟩, hB3⟩
end Go.Proofs.YtbggcofnopaloabDoor
namespace Go.Proofs.YtbggcofnopaloabDoor
open Go.RowKit Sx
def InssArg (W : World) (v : Value) (l : List Ins) : Prop := InssR W v l ∧ (∀ i ∈ l, -9223372036854775808 ≤ i.op ∧ i.op ≤ 9223372036854775807) ∧ l.length ≤ 9223372036854775807
theorem InssR.formN {W : World} {v : Value} {l : List Ins} (h : InssR W v l) (n : Nat) (hn : l.length = n) : ∃ p cap, v = .slice p n cap ∧ (0 < n → ∃ b o, p = some ⟨b, o, none⟩ ∧ InsB W b o l) := by
  subst hn
  exact h.form
theorem U32sR.formN {W : World} {v : Value} {l : List Nat} (h : U32sR W v l) (n : Nat) (hn : l.length = n) : ∃ p cap, v = .slice p n cap ∧ (0 < n → ∃ b o, p = some ⟨b, o, none⟩ ∧ U32B W b o l) := by
  subst hn
  exact h.form
theorem Pre.of_below {N : Nat} {w0 w w' : World} (h : Pre N w0 w) (hb : Below w.heap.size w w') : Pre N w0 w' := h.step hb
structure Cmp (N b o m : Nat) (w0 : World) (i : Ins) (W : World) : Prop where
  a : InsAt W b o i
  lt : b < W.heap.size
  c : Blk W m 38 (insC i)
  pre : Pre N w0 W
theorem Cmp.step {N b o m : Nat} {w0 W W' : World} {i : Ins} (h : Cmp N b o m w0 i W) (hb : Below W.heap.size W W') : Cmp N b o m w0 i W' := ⟨h.a.below hb h.lt, Nat.lt_of_lt_of_le h.lt hb.size, h.c.of_below hb, h.pre.step hb⟩
theorem Cmp.drew {N b o m : Nat} {w0 W : World} {i : Ins} (h : Cmp N b o m w0 i W) : Cmp N b o m w0 i W.drew := h.step (Below.refl _ _).drew
theorem Cmp.cells {N b o m : Nat} {w0 W : World} {op rd rn rm imm cond : Int} (h : Cmp N b o m w0 ⟨op, rd, rn, rm, imm, cond⟩ W) : W.cell? ⟨b, o, none⟩ = some (.int .i64 op) ∧ W.cell? ⟨b, o + 1, none⟩ = some (.int .i64 rd) ∧ W.cell? ⟨b, o + 2, none⟩ = some (.int .i64 rn) ∧ W.cell? ⟨b, o + 3, none⟩ = some (.int .i64 rm) ∧ W.cell? ⟨b, o + 4, none⟩ = some (.int .i64 imm) ∧ W.cell? ⟨b, o + 5, none⟩ = some (.int .i64 cond) ∧ W.cell? ⟨m, 0, none⟩ = some (.int .i64 op) ∧ W.cell? ⟨m, 1, none⟩ = some (.int .i64 rd) ∧ W.cell? ⟨m, 2, none⟩ = some (.int .i64 rn) ∧ W.cell? ⟨m, 3, none⟩ = some (.int .i64 rm) ∧ W.cell? ⟨m, 4, none⟩ = some (.int .i64 imm) ∧ W.cell? ⟨m, 5, none⟩ = some (.int .i64 cond) := by
  obtain ⟨a, b, c, d, e, f⟩ := InS.ofT h.c
  exact ⟨h.a.p0, h.a.p1, h.a.p2, h.a.p3, h.a.p4, h.a.p5, a, b, c, d, e, f⟩
structure Cmw (N b o c p : Nat) (w0 : World) (x : Nat) (i : Ins) (W : World) : Prop where
  x : W.cell? ⟨b, o, none⟩ = some (.int .u32 (x : Int))
  lt : b < W.heap.size
  a : InsAt W c p i
  lt2 : c < W.heap.size
  pre : Pre N w0 W
theorem Cmw.step {N b o c p : Nat} {w0 W W' : World} {x : Nat} {i : Ins} (h : Cmw N b o c p w0 x i W) (hb : Below W.heap.size W W') : Cmw N b o c p w0 x i W' := ⟨(hb.cell (p := ⟨b, o, none⟩) h.lt).trans h.x, Nat.lt_of_lt_of_le h.lt hb.size, h.a.below hb h.lt2, Nat.lt_of_lt_of_le h.lt2 hb.size, h.pre.step hb⟩
theorem Cmw.drew {N b o c p : Nat} {w0 W : World} {x : Nat} {i : Ins} (h : Cmw N b o c p w0 x i W) : Cmw N b o c p w0 x i W.drew := h.step (Below.refl _ _).drew
theorem Cmw.cells {N b o c p : Nat} {w0 W : World} {x : Nat} {op rd rn rm imm cond : Int} (h : Cmw N b o c p w0 x ⟨op, rd, rn, rm, imm, cond⟩ W) : W.cell? ⟨b, o, none⟩ = some (.int .u32 (x : Int)) ∧ W.cell? ⟨c, p, none⟩ = some (.int .i64 op) ∧ W.cell? ⟨c, p + 1, none⟩ = some (.int .i64 rd) ∧ W.cell? ⟨c, p + 2, none⟩ = some (.int .i64 rn) ∧ W.cell? ⟨c, p + 3, none⟩ = some (.int .i64 rm) ∧ W.cell? ⟨c, p + 4, none⟩ = some (.int .i64 imm) ∧ W.cell? ⟨c, p + 5, none⟩ = some (.int .i64 cond) := ⟨h.x, h.a.p0, h.a.p1, h.a.p2, h.a.p3, h.a.p4, h.a.p5⟩
theorem enc_fits {i : Ins} (h : (encI i).isSome = true) : fitsI i = true := by
  cases hf : fitsI i
  · rw [enc_no hf] at h; cases h
  · rfl
theorem Pre.two {w w4 W : World} (h : Pre w.heap.size w w4) (k : Pre w4.heap.size w4 W) : Pre w.heap.size w W := ⟨k.tb, h.bel.trans (k.bel.mono h.le), Nat.le_trans h.le k.le⟩
theorem U32sR.under {W W' : World} {v : Value} {l : List Nat} (h : U32sR W v l) (hb : Below W.heap.size W W') : U32sR W' v l := h.step hb
theorem InsB.same {W W' : World} {b o : Nat} {l : List Ins} (h : InsB W b o l) (e : W'.heap = W.heap) : InsB W' b o l := by
  have hc : ∀ p, W'.cell? p = W.cell? p := fun p => by unfold World.cell?; rw [e]
  refine ⟨by rw [e]; exact h.lt, fun j i hj => ?_⟩
  obtain ⟨a, b, c, d, e, f⟩ := h.at_ j i hj
  exact ⟨(hc _).trans a, (hc _).trans b, (hc _).trans c, (hc _).trans d, (hc _).trans e, (hc _).trans f⟩
theorem map_at {l : List Ins} (hg : ∀ (j : Nat) (y : Ins), j < l.length → l[j]? = some y → (encI y).isSome = true) (i : Ins) (hi : i ∈ l) : ∃ x, encI i = some x := by
  obtain ⟨j, hj⟩ := List.getElem?_of_mem hi
  exact Option.isSome_iff_exists.1 (hg j i (List.getElem?_eq_some_iff.1 hj).1 hj)
theorem map_lt {l : List Ins} (hg : ∀ (j : Nat) (y : Ins), j < l.length → l[j]? = some y → (encI y).isSome = true) : ∀ x ∈ l.map (fun x => (encI x).getD 0), x < 4294967296 := by
  intro x hx
  obtain ⟨i, hi, rfl⟩ := List.mem_map.1 hx
  obtain ⟨y, hy⟩ := map_at hg i hi
  rw [hy]
  exact enc_lt hy
theorem map_dec {l : List Ins} (hg : ∀ (j : Nat) (y : Ins), j < l.length → l[j]? = some y → (encI y).isSome = true) : ∀ (j : Nat) (x : Nat), j < (l.map (fun x => (encI x).getD 0)).length → (l.map (fun x => (encI x).getD 0))[j]? = some x → (decA x).isSome = true := by
  intro j x _ hx
  rw [List.getElem?_map, Option.map_eq_some_iff] at hx
  obtain ⟨i, hi, rfl⟩ := hx
  obtain ⟨y, hy⟩ := map_at hg i (List.mem_of_getElem? hi)
  rw [hy]
  show (decA y).isSome = true
  rw [(enc_dec hy).1]
  rfl
theorem map_back {l : List Ins} (hg : ∀ (j : Nat) (y : Ins), j < l.length → l[j]? = some y → (encI y).isSome = true) : (l.map (fun x => (encI x).getD 0)).map (fun x => (decA x).getD zeroI) = l := by
  rw [List.map_map]
  refine (List.map_congr_left (g := id) (fun i hi => ?_)).trans (List.map_id l)
  obtain ⟨y, hy⟩ := map_at hg i hi
  show (decA ((encI i).getD 0)).getD zeroI = i
  rw [hy]
  show (decA y).getD zeroI = i
  rw [(enc_dec hy).1]
  rfl
theorem ref_word {op rd rn rm imm cond : Int} {y : Nat} (h : encI ⟨op, rd, rn, rm, imm, cond⟩ = some y) (W : World) : Calls Tryd.prog 15 #[.agg #[.int .i64 op, .int .i64 rd, .int .i64 rn, .int .i64 rm, .int .i64 imm, .int .i64 cond]] W fun e w' => e = .returned (.int .u32 (y : Int)) ∧ Below W.heap.size W w' := by
  have hf : fitsI ⟨op, rd, rn, rm, imm, cond⟩ = true := enc_fits (by rw [h]; rfl)
  obtain ⟨k, k1, k2, k3, k4, k5⟩ := enc_yes hf
  rw [h] at k5
  obtain rfl := Option.some.inj k5
  dsimp only at k3
  subst k3
  exact r14Word_calls k rd rn rm imm cond W k1 k2 k4
end Go.Proofs.YtbggcofnopaloabDoor
namespace Go.Proofs.YtbggcofnopaloabDoor
open Go.RowKit Sx
end Go.Proofs.YtbggcofnopaloabDoor
namespace Go.Proofs.YtbggcofnopaloabDoor
open Go.RowKit Sx
theorem owns_same {W W' : World} {base : Nat} {e : TypeId} {size : Nat} {v : Value} {n : Nat} {xs : List Value} (h : W.ownsRow base e size v n xs) (hs : ∀ g, v.ownBlock = some g → W'.heap[g]? = W.heap[g]?) : W'.ownsRow base e size v n xs := by
  refine ⟨h.1, ?_⟩
  rcases h.2 with h2 | ⟨g, cap, cur, rfl, h4, h5, h6⟩
  · exact .inl h2
  · exact .inr ⟨g, cap, cur, rfl, h4, (hs g rfl).trans h5, h6⟩
theorem owns_at {W : World} {base : Nat} {e : TypeId} {size : Nat} {oa : Option Addr} {cap n : Nat} {xs : List Value} (h : W.ownsRow base e size (.slice oa n cap) n xs) (hn : 0 < n) : ∃ g, oa = some ⟨g, 0, none⟩ ∧ base ≤ g ∧ g < W.heap.size ∧ n ≤ cap := by
  rcases h.2 with ⟨-, e⟩ | ⟨g, c, cur, e, h4, h5, h6, -⟩
  · omega
  · injection e with e1 e2 e3
    subst e1 e3
    exact ⟨g, rfl, h4, (Array.getElem?_eq_some_iff.1 h5).1, h6⟩
theorem owns_cell {W : World} {base : Nat} {e : TypeId} {size : Nat} {g cap n : Nat} {xs : List Value} (h : W.ownsRow base e size (.slice (some ⟨g, 0, none⟩) n cap) n xs) (j : Nat) (hj : j < n * size) : (∃ u, W.cell? ⟨g, j, none⟩ = some u) ∧ W.frozen? ⟨g, j, none⟩ = false := by
  rcases h.2 with ⟨e, -⟩ | ⟨g', c, cur, e, h4, h5, h6, h7, h8, h9⟩
  · injection e with e1
    cases e1
  · injection e with e1 e2 e3
    injection e1 with e1
    injection e1 with e1
    subst e1 e3
    have hB : Blk W g _ cur := h5
    have hlt : j < cur.size := by
      rw [h8]
      exact Nat.lt_of_lt_of_le hj (Nat.mul_le_mul_right _ h6)
    exact ⟨⟨_, hB.cell (Array.getElem?_eq_getElem hlt)⟩, hB.frozen j⟩
theorem owns_set1 {W : World} {base : Nat} {e : TypeId} {size : Nat} {g cap n : Nat} {xs : List Value} (h : W.ownsRow base e size (.slice (some ⟨g, 0, none⟩) n cap) n xs) (j : Nat) (u : Value) : (W.setCell ⟨g, j, none⟩ u).ownsRow base e size (.slice (some ⟨g, 0, none⟩) n cap) n (xs.set j u) := by
  refine ⟨by rw [List.length_set]; exact h.1, ?_⟩
  rcases h.2 with ⟨e, -⟩ | ⟨g', c, cur, e, h4, h5, h6, h7, h8, h9⟩
  · injection e with e1
    cases e1
  · injection e with e1 e2 e3
    injection e1 with e1
    injection e1 with e1
    subst e1 e3
    have hB : Blk W g _ cur := h5
    refine .inr ⟨g, cap, cur.setIfInBounds j u, rfl, h4, hB.set j u, h6, h7, by rw [Array.size_setIfInBounds]; exact h8, ?_⟩
    rw [Array.toList_setIfInBounds, ← h9, List.take_set]
def Stable (gs : List Nat) (K : World → Prop) : Prop := ∀ W W' : World, W.heap.size ≤ W'.heap.size → (∀ g ∈ gs, W'.heap[g]? = W.heap[g]?) → K W → K W'
structure Mu (e : TypeId) (sz : Nat) (e2 : TypeId) (sz2 : Nat) (w : World) (K : World → Prop) (gs : List Nat) (vb : Value) (n : Nat) (bs : List Value) (va : Value) (m : Nat) (W : World) : Prop where
  st : Stable gs K
  pos : 0 < w.heap.size
  pre : Pre w.heap.size w W
  k : K W
  a : ∃ ys, W.ownsRow w.heap.size e sz va m ys
  b : W.ownsRow w.heap.size e2 sz2 vb n bs
  nab : ∀ q, va.ownBlock = some q → vb.ownBlock ≠ some q
  na : ∀ g ∈ gs, va.ownBlock ≠ some g
  nb : ∀ g ∈ gs, vb.ownBlock ≠ some g
  lt : ∀ g ∈ gs, g < W.heap.size
theorem Mu.go {e e2 : TypeId} {sz sz2 n m m' : Nat} {w W W' : World} {K : World → Prop} {gs : List Nat} {va v' vb : Value} {bs : List Value} (h : Mu e sz e2 sz2 w K gs vb n bs va m W) (hP : Pre w.heap.size w W') (hs : W.heap.size ≤ W'.heap.size) (hb : ∀ k, k < W.heap.size → va.ownBlock ≠ some k → W'.heap[k]? = W.heap[k]?) (ha : ∃ ys, W'.ownsRow w.heap.size e sz v' m' ys)
    (hv : v'.ownBlock = va.ownBlock ∨ ∃ q, v'.ownBlock = some q ∧ W.heap.size ≤ q) : Mu e sz e2 sz2 w K gs vb n bs v' m' W' := by
  refine ⟨h.st, h.pos, hP, h.st W W' hs (fun g hg => hb g (h.lt g hg) (h.na g hg)) h.k, ha, owns_same h.b (fun g hg => hb g (h.b.lt g hg).2 (fun e => h.nab g e hg)), fun q hq => ?_, fun g hg => ?_, h.nb, fun g hg => Nat.lt_of_lt_of_le (h.lt g hg) hs⟩
  · rcases hv with hv | ⟨q', hv, hl⟩
    · exact h.nab q (by rw [← hv]; exact hq)
    · intro e
      have h1 := (h.b.lt q e).2
      rw [hq] at hv
      injection hv with hv
      omega
  · rcases hv with hv | ⟨q', hv, hl⟩
    · rw [hv]; exact h.na g hg
    · rw [hv]
      intro e
      injection e with e
      have := h.lt g hg
      omega
theorem Mu.below {e e2 : TypeId} {sz sz2 n m : Nat} {w W W' : World} {K : World → Prop} {gs : List Nat} {va vb : Value} {bs : List Value} (h : Mu e sz e2 sz2 w K gs vb n bs va m W) (hb : Below W.heap.size W W') : Mu e sz e2 sz2 w K gs vb n bs va m W' := by
  obtain ⟨ys, hy⟩ := h.a
  exact h.go (h.pre.step hb) hb.size (fun k hk _ => hb.block k hk) ⟨ys, owns_below' hy hb⟩ (.inl rfl)
theorem Mu.set {e e2 : TypeId} {sz sz2 n m g cap : Nat} {w W : World} {K : World → Prop} {gs : List Nat} {vb : Value} {bs : List Value} (h : Mu e sz e2 sz2 w K gs vb n bs (.slice (some ⟨g, 0, none⟩) m cap) m W) (j : Nat) (u : Value) : Mu e sz e2 sz2 w K gs vb n bs (.slice (some ⟨g, 0, none⟩) m cap) m (W.setCell ⟨g, j, none⟩ u) := by
  obtain ⟨ys, hy⟩ := h.a
  have hl := hy.lt g rfl
  have hs : W.heap.size ≤ (W.setCell ⟨g, j, none⟩ u).heap.size := by simp [World.setCell]
  refine h.go ⟨?_, h.pre.bel.setCell (p := ⟨g, j, none⟩) hl.1 u, Nat.le_trans h.pre.le hs⟩ hs (fun k hk hne => Below.heap_setCell W ⟨g, j, none⟩ u k (fun e => hne (by rw [e]; rfl))) ⟨_, owns_set1 hy j u⟩ (.inl rfl)
  exact h.pre.tb.below (n := 1) (by decide) ((Below.refl 1 W).setCell (p := ⟨g, j, none⟩) (by have := h.pos; show 1 ≤ g; omega) u)
theorem Mu.more {e e2 : TypeId} {sz sz2 n m m' : Nat} {w W W' : World} {K : World → Prop} {gs : List Nat} {va v' vb : Value} {bs zs : List Value} {o : Obj} (h : Mu e sz e2 sz2 w K gs vb n bs va m W) (hg : (W.alloc o).grownBy W' va.ownBlock) (ho : W'.ownsRow w.heap.size e sz v' m' zs) (hv : v'.ownBlock = va.ownBlock ∨ v'.ownBlock = some (W.alloc o).heap.size) : Mu e sz e2 sz2 w K gs vb n bs v' m' W' := by
  obtain ⟨ys, hy⟩ := h.a
  have hz := hg.size
  rw [World.size_alloc] at hz
  refine h.go (pre_grown h.pre hy hg h.pos) (by omega) (fun k hk hne => (hg.block k (by rw [World.size_alloc]; omega) (fun e => hne e.symm)).trans (Below.heap_alloc W o k hk)) ⟨zs, ho⟩ ?_
  rcases hv with hv | hv
  · exact .inl hv
  · exact .inr ⟨_, hv, by rw [World.size_alloc]; omega⟩
theorem insB_stable (g o : Nat) (l : List Ins) : Stable [g] (fun W => InsB W g o l) := by
  intro W W' hs hg h
  have e : W'.heap[g]? = W.heap[g]? := hg g (by simp)
  have hc : ∀ j, W'.cell? ⟨g, j, none⟩ = W.cell? ⟨g, j, none⟩ := fun j => by
    unfold World.cell?
    dsimp only
    rw [e]
  refine ⟨Nat.lt_of_lt_of_le h.lt hs, fun j i hj => ?_⟩
  obtain ⟨a, b, c, d, e, f⟩ := h.at_ j i hj
  exact ⟨(hc _).trans a, (hc _).trans b, (hc _).trans c, (hc _).trans d, (hc _).trans e, (hc _).trans f⟩
theorem u32B_stable (g o : Nat) (l : List Nat) : Stable [g] (fun W => U32B W g o l) := by
  intro W W' hs hg h
  have e : W'.heap[g]? = W.heap[g]? := hg g (by simp)
  have hc : ∀ j, W'.cell? ⟨g, j, none⟩ = W.cell? ⟨g, j, none⟩ := fun j => by
    unfold World.cell?
    dsimp only
    rw [e]
  exact ⟨Nat.lt_of_lt_of_le h.lt hs, fun j x hj => (hc _).trans (h.at_ j x hj)⟩
theorem both_stable {g g' : Nat} {K K' : World → Prop} (h : Stable [g] K) (h' : Stable [g'] K') : Stable [g, g'] (fun W => K W ∧ K' W) :=
  fun W W' hs hg ⟨h1, h2⟩ => ⟨h W W' hs (fun x hx => hg x (by simp at hx; simp [hx])) h1, h' W W' hs (fun x hx => hg x (by simp at hx; simp [hx])) h2⟩
theorem InsB.pre {W : World} {g o : Nat} {l r : List Ins} (h : InsB W g o (l ++ r)) : InsB W g o l := ⟨h.lt, fun j i hj => h.at_ j i (by rw [List.getElem?_append_left (List.getElem?_eq_some_iff.1 hj).1]; exact hj)⟩
theorem U32B.pre {W : World} {g o : Nat} {l r : List Nat} (h : U32B W g o (l ++ r)) : U32B W g o l := ⟨h.lt, fun j i hj => h.at_ j i (by rw [List.getElem?_append_left (List.getElem?_eq_some_iff.1 hj).1]; exact hj)⟩
end Go.Proofs.YtbggcofnopaloabDoor
namespace Go.Proofs.YtbggcofnopaloabDoor
open Go.RowKit Sx
def i99 : Ins := ⟨99, 0, 0, 0, 0, 0⟩
def i98 : Ins := ⟨98, 0, 0, 0, 0, 0⟩
theorem encIs_two (X : List Ins) : encIs (X ++ [i99, i98]) = encIs X ++ [.int .i64 99, .int .i64 0, .int .i64 0, .int .i64 0, .int .i64 0, .int .i64 0, .int .i64 98, .int .i64 0, .int .i64 0, .int .i64 0, .int .i64 0, .int .i64 0] := by
  unfold encIs
  rw [List.flatMap_append]
  rfl
theorem encU_two (M : List Nat) : encU (M ++ [201, 202]) = encU M ++ [.int .u32 201, .int .u32 202] := by
  unfold encU
  rw [List.map_append]
  rfl
theorem at_two {X : List Ins} {n : Nat} (h : X.length = n) : (X ++ [i99, i98])[n]? = some i99 ∧ (X ++ [i99, i98])[n + 1]? = some i98 := by
  subst h
  constructor
  · rw [List.getElem?_append_right (Nat.le_refl _), Nat.sub_self]; rfl
  · rw [List.getElem?_append_right (by omega), show X.length + 1 - X.length = 1 by omega]; rfl
theorem at_twoU {X : List Nat} {n : Nat} (h : X.length = n) : (X ++ [201, 202])[n]? = some 201 ∧ (X ++ [201, 202])[n + 1]? = some 202 := by
  subst h
  constructor
  · rw [List.getElem?_append_right (Nat.le_refl _), Nat.sub_self]; rfl
  · rw [List.getElem?_append_right (by omega), show X.length + 1 - X.length = 1 by omega]; rfl
theorem owns_cap {W : World} {base : Nat} {e : TypeId} {size : Nat} {p : Option Addr} {cap n : Nat} {xs : List Value} (h : W.ownsRow base e size (.slice p n cap) n xs) (hn : 0 < n) : n ≤ cap ∧ cap ≤ maxLen := by
  rcases h.2 with ⟨-, e⟩ | ⟨g, c, cur, e, h4, h5, h6, h7, -⟩
  · omega
  · injection e with e1 e2 e3
    subst e3
    exact ⟨h6, h7⟩
theorem insB_own {W : World} {base g o cap n : Nat} {L : List Ins} (h : W.ownsRow base 25 6 (.slice (some ⟨g, o, none⟩) n cap) n (encIs L)) (hl : L.length = n) (hn : 0 < n) : InsB W g o L := by
  rcases owns_ins (l := L) (v := .slice (some ⟨g, o, none⟩) n cap) (by rw [hl]; exact h) with ⟨a, c, -, e⟩ | ⟨b, o', c, e, hB⟩
  · subst e
    simp at hl
    omega
  · injection e with e1
    injection e1 with e1
    injection e1 with e1 e2
    subst e1 e2
    exact hB
theorem insB_grown {W W' : World} {g o : Nat} {l : List Ins} {ob : Option Nat} {x : Obj} (h : InsB W g o l) (hg : (W.alloc x).grownBy W' ob) (hne : ob ≠ some g) : InsB W' g o l := by
  have hz := hg.size
  rw [World.size_alloc] at hz
  refine insB_stable g o l W W' (by omega) (fun q hq => ?_) h
  rw [List.mem_singleton.1 hq]
  exact (hg.block g (by rw [World.size_alloc]; have := h.lt; omega) (fun e => hne e.symm)).trans (Below.heap_alloc W x g h.lt)
theorem two_mem {P : Nat → Prop} {g g' : Nat} (h : P g) (h' : P g') : ∀ x ∈ [g, g'], P x := by
  intro x hx
  rcases List.mem_cons.1 hx with rfl | hx
  · exact h
  · rw [List.mem_singleton.1 hx]; exact h'
theorem news_any (w : World) (t : TypeId) (cs : Array Value) : ∀ j u, cs.toList[j]? = some u → (w.alloc (.cells cs t)).cell? ((⟨w.heap.size, 0, none⟩ : Addr).add j) = some u := by
  intro j u hj
  rw [Addr.add_lit, Nat.zero_add]
  exact (Blk.new w t cs).cell (by simpa using hj)
set_option maxRecDepth 100000 in
set_option maxHeartbeats 32000000 in
theorem CodeKept_calls (l : List Ins) (v : Value) (w : World) (hT : Tb w) (hk : InssArg w v l) :
    Calls Tryd.prog 7 #[v] w fun e w' => e = .returned (.bool true) ∧ Below w.heap.size w w' := by
  obtain ⟨hv, hop, -⟩ := hk
  obtain ⟨p, cap, rfl, hp⟩ := hv.form
  have hc0 := l14awake_calls
  obtain ⟨i0, hi, hz0, hz1, hz2⟩ := info_parts Tryd.infoins
  obtain ⟨j0, hj, hy0, hy1, hy2⟩ := info_parts Tryd.infou32
  have HT0 := hid_of hT.lt
  have HP0 := hid_of (Pre.refl hT)
  have HPP := hid_of hp
  have HOP := hid_of hop
  clear hT hv hp hop
  go_enter Tryd.func7, Tryd.ntmps7
  go_upto_region 5 with (go_at_call 8; refine (hc0 _ HP0.out.tb).mono ?_; rintro e w3 ⟨rfl, hB3⟩; have HP3 := hid_of (HP0.out.step hB3); clear hB3)
  clear hc0
  go_loopw [3, 4] (fun iv i wr => ∃ (k : Nat) (X : List Ins), k ≤ l.length ∧ k ≤ 100 ∧ X.length ≤ k ∧ i = .int .i64 k ∧ Hid (∀ x ∈ X, (encI x).isSome = true ∧ (-9223372036854775808 ≤ x.op ∧ x.op ≤ 9223372036854775807)) ∧ Hid (wr.ownsRow w.heap.size 25 6 iv X.length (encIs X)) ∧ Hid (Pre w.heap.size w wr)) (fun _ i _ => 101 - (intOf i).toNat)
  case atStart => exact ⟨0, [], by omega, by omega, Nat.le_refl _, rfl, fun x hx => (by cases hx), World.ownsRow_nil _ _ _ _, HP3⟩
  case round =>
    obtain ⟨k, X, hk1, hk2, hXk, rfl, HX, HO, HP⟩ := hrel
    obtain ⟨oa, ocap, rfl⟩ := owns_len HO.out
    have hc2 : ∀ (op rd rn rm imm cond : Int) W, Calls Tryd.prog 14 #[.agg #[.int .i64 op, .int .i64 rd, .int .i64 rn, .int .i64 rm, .int .i64 imm, .int .i64 cond]] W fun e w' => e = .returned (.agg #[.int .i64 op, .int .i64 rd, .int .i64 rn, .int .i64 rm, .int .i64 imm, .int .i64 cond]) ∧ Below W.heap.size W w' := fun op rd rn rm imm cond W => l14Ref_calls ⟨op, rd, rn, rm, imm, cond⟩ W
    by_cases hgo : k < l.length ∧ k < 100
    · obtain ⟨hg1, hg2⟩ := hgo
      obtain ⟨b, o, rfl, hB⟩ := HPP.out (by omega)
      obtain ⟨x, hx⟩ : ∃ x, l[k]? = some x := ⟨_, List.getElem?_eq_getElem hg1⟩
      have hxo := hid_of (HOP.out x (List.mem_of_getElem? hx))
      obtain ⟨op, rd, rn, rm, imm, cond⟩ := x
      have HAT : Hid (∀ W, Below w.heap.size w W → InsAt W b (o + k * 6) ⟨op, rd, rn, rm, imm, cond⟩) := fun W h => (hB.below h hB.lt).at_ k _ hx
      obtain ⟨c0, c1, c2, c3, c4, c5⟩ := HAT.out _ HP.out.bel
      dsimp only at c0 c1 c2 c3 c4 c5
      clear hB hx
      cases hf : fitsI ⟨op, rd, rn, rm, imm, cond⟩
      · have hc3 : ∀ W, Calls Tryd.prog 13 #[.agg #[.int .i64 op, .int .i64 rd, .int .i64 rn, .int .i64 rm, .int .i64 imm, .int .i64 cond]] W fun e w' => e = .returned (.bool false) ∧ Below W.heap.size W w' := fun W => by
          have := r14Fits_calls ⟨op, rd, rn, rm, imm, cond⟩ W
          rw [hf] at this
          exact this
        clear hf
        go_wp2_with (first | (go_at_call 14; refine (hc2 op rd rn rm imm cond _).mono ?_; rintro e w5 ⟨rfl, hB5⟩; have HP5 := hid_of (HP.out.step hB5); have HO5 := hid_of (owns_below' HO.out hB5); clear hB5) | (go_at_call 13; refine (hc3 _).mono ?_; rintro e w6 ⟨rfl, hB6⟩; have HP6 := hid_of (HP5.out.step hB6); have HO6 := hid_of (owns_below' HO5.out hB6); clear hB6 HP5 HO5))
        exact ⟨⟨k + 1, X, by omega, by omega, by omega, by go_num, HX, HO6, HP6⟩, by simp [intOf]; omega⟩
      · have hc3 : ∀ W, Calls Tryd.prog 13 #[.agg #[.int .i64 op, .int .i64 rd, .int .i64 rn, .int .i64 rm, .int .i64 imm, .int .i64 cond]] W fun e w' => e = .returned (.bool true) ∧ Below W.heap.size W w' := fun W => by
          have := r14Fits_calls ⟨op, rd, rn, rm, imm, cond⟩ W
          rw [hf] at this
          exact this
        have HEN : Hid ((encI ⟨op, rd, rn, rm, imm, cond⟩).isSome = true) := by
          obtain ⟨q, -, -, -, -, h5⟩ := enc_yes hf
          rw [Hid, h5]
          rfl
        clear hf
        generalize hnn : X.length = n at *
        generalize hxs : encIs X = xs at *
        go_wp2_with (first | (go_at_call 14; refine (hc2 op rd rn rm imm cond _).mono ?_; rintro e w5 ⟨rfl, hB5⟩; have HP5 := hid_of (HP.out.step hB5); have HO5 := hid_of (owns_below' HO.out hB5); clear hB5) | (go_at_call 13; refine (hc3 _).mono ?_; rintro e w6 ⟨rfl, hB6⟩; have HP6 := hid_of (HP5.out.step hB6); have HO6 := hid_of (owns_below' HO5.out hB6); obtain ⟨c0, c1, c2, c3, c4, c5⟩ := HAT.out _ HP6.out.bel; dsimp only at c0 c1 c2 c3 c4 c5; clear hB6 HP5 HO5) | (at_builtin; refine wpList_append_own_at _ rfl _ _ 33 rfl w.heap.size 25 i0 (insV zeroI) 6 48 Tryd.underlying33 hi hz0 hz1 hz2 rfl (by decide) (.slice oa n ocap) n xs rfl (HO6.out.alloc _) ⟨_, 0, none⟩ 1 1 [.int .i64 op, .int .i64 rd, .int .i64 rn, .int .i64 rm, .int .i64 imm, .int .i64 cond] rfl rfl (news_any _ 25 #[.int .i64 op, .int .i64 rd, .int .i64 rn, .int .i64 rm, .int .i64 imm, .int .i64 cond]) (by simp [Value.oneCell']) (by unfold maxLen; omega) (by omega) (by have := HP6.out.le; simp; omega) ?_; intro v7 w7 hown7 hgrow7 _ _))
        have HP7 := hid_of (pre_grown HP6.out HO6.out hgrow7 HT0.out)
        have hown8 : w7.ownsRow w.heap.size 25 6 v7 (X ++ [(⟨op, rd, rn, rm, imm, cond⟩ : Ins)]).length (encIs (X ++ [(⟨op, rd, rn, rm, imm, cond⟩ : Ins)])) := by
          rw [encIs_snoc, hxs, List.length_append, hnn]
          exact hown7
        refine ⟨⟨k + 1, X ++ [⟨op, rd, rn, rm, imm, cond⟩], by omega, by omega, by rw [List.length_append, hnn]; simp; omega, by go_num, hid_of (fun x hx => ?_), hid_of hown8, HP7⟩, by simp [intOf]; omega⟩
        rcases List.mem_append.1 hx with h | h
        · exact HX.out x h
        · rw [List.mem_singleton.1 h]
          exact ⟨HEN.out, hxo.out⟩
    · have hXn : X.length ≤ 100 := by omega
      have hgg : ∀ (j : Nat) (y : Ins), j < X.length → X[j]? = some y → (encI y).isSome = true := fun j y _ hy => (HX.out y (List.mem_of_getElem? hy)).1
      have hoo : ∀ i ∈ X, -9223372036854775808 ≤ i.op ∧ i.op ≤ 9223372036854775807 := fun i hi => (HX.out i hi).2
      have hcW : ∀ v W, Tb W → InssR W v X → Calls Tryd.prog 12 #[v] W fun e w' => (∃ v', e = .returned (.tuple #[v', .int .i64 0, .int .i64 0]) ∧ w'.ownsRow W.heap.size 22 1 v' X.length (encU (X.map fun x => (encI x).getD 0))) ∧ Below W.heap.size W w' := fun v W h1 h2 => words_ok v X W h1 h2 hoo (by omega) (by omega) hgg
      have hcL : ∀ v W, Tb W → U32sR W v (X.map fun x => (encI x).getD 0) → Calls Tryd.prog 16 #[v] W fun e w' => (∃ v', e = .returned (.tuple #[v', .int .i64 0, .int .i64 0]) ∧ w'.ownsRow W.heap.size 25 6 v' X.length (encIs X)) ∧ Below W.heap.size W w' := fun v W h1 h2 => by
        have := list_ok v (X.map fun x => (encI x).getD 0) W h1 h2 (map_lt hgg) (by rw [List.length_map]; omega) (by rw [List.length_map]; omega) (map_dec hgg)
        rw [map_back hgg, List.length_map] at this
        exact this
      clear hgg hoo
      have HML : Hid ((X.map fun x => (encI x).getD 0).length = X.length) := List.length_map ..
      have HMM : Hid (∃ M, M = X.map fun x => (encI x).getD 0) := ⟨_, rfl⟩
      obtain ⟨M, hMM⟩ := HMM.out
      rw [← hMM] at HML hcW hcL
      clear HMM
      have HMM := hid_of hMM
      clear hMM
      generalize hnn : X.length = n at *
      have HXL := hid_of hnn
      clear hnn
      generalize hxs : encIs X = xs at HO
      have hex : (k < l.length ∧ ¬ k < 100) ∨ ¬ k < l.length := by omega
      clear hgo
      rcases hex with ⟨e1, e2⟩ | e1
      all_goals
        go_upto_region 11 with (at_builtin; refine wpList_append_own_at _ rfl _ _ 33 rfl w.heap.size 25 i0 (insV zeroI) 6 48 Tryd.underlying33 hi hz0 hz1 hz2 rfl (by decide) (.slice oa n ocap) n xs rfl (HO.out.alloc _) ⟨_, 0, none⟩ 2 2 [.int .i64 99, .int .i64 0, .int .i64 0, .int .i64 0, .int .i64 0, .int .i64 0, .int .i64 98, .int .i64 0, .int .i64 0, .int .i64 0, .int .i64 0, .int .i64 0] rfl rfl (news_any _ 25 #[.int .i64 99, .int .i64 0, .int .i64 0, .int .i64 0, .int .i64 0, .int .i64 0, .int .i64 98, .int .i64 0, .int .i64 0, .int .i64 0, .int .i64 0, .int .i64 0]) (by simp [Value.oneCell']) (by unfold maxLen; omega) (by omega) (by have := HP.out.le; simp; omega) ?_; intro v5 w5 hown5 hgrow5 _ _)
        have HP5 := hid_of (pre_grown HP.out HO.out hgrow5 HT0.out)
        rw [← hxs, ← encIs_two] at hown5
        obtain ⟨p5, capi, rfl, hp5⟩ := (owns_ins (l := X ++ [i99, i98]) (by rw [List.length_append, HXL.out]; exact hown5)).formN (n + 2) (by rw [List.length_append, HXL.out]; rfl)
        obtain ⟨gi, oi, rfl, hI⟩ := hp5 (by omega)
        have hcapi := owns_cap hown5 (by omega)
        have HI5 := hid_of hI
        have HIR5 : Hid (InssR w5 (.slice (some ⟨gi, oi, none⟩) n capi) X) := .inr ⟨gi, oi, capi, by rw [HXL.out], hI.pre⟩
        clear hown5 hgrow5 hp5 hI HO hxs
        go_upto_region 12 with (go_at_call 12; refine (hcW _ _ HP5.out.tb HIR5.out).mono ?_; rintro e w6 ⟨⟨v6, rfl, ho6⟩, hB6⟩; obtain ⟨oa6, cap6, rfl⟩ := owns_len ho6; have HP6 := hid_of (HP5.out.step hB6); have HI6 := hid_of (HI5.out.step hB6); have HIR6 := hid_of (HIR5.out.step hB6); have HO6 := hid_of ho6; have HS6 := hid_of hB6.size; clear ho6 hB6)
        go_upto_region 13 with (go_at_call 12; refine (hcW _ _ HP6.out.tb HIR6.out).mono ?_; rintro e w7 ⟨⟨v7, rfl, ho7⟩, hB7⟩; obtain ⟨ob7, cap7, rfl⟩ := owns_len ho7; have HP7 := hid_of (HP6.out.step hB7); have HI7 := hid_of (HI6.out.step hB7); have HO7 := hid_of (owns_below' HO6.out hB7); have HQ7 := hid_of ho7; have HS7 := hid_of hB7.size; clear ho7 hB7)
        have HM7 : Hid (Mu 22 1 22 1 w (fun W => InsB W gi oi (X ++ [i99, i98])) [gi] (.slice ob7 n cap7) n (encU M) (.slice oa6 n cap6) n w7) := ⟨insB_stable gi oi _, HT0.out, HP7.out, HI7.out, ⟨_, owns_lo HO7.out HP5.out.le⟩, owns_lo HQ7.out HP6.out.le, fun q hq e => by have h1 := (HO6.out.lt q hq).2; have h2 := (HQ7.out.lt q e).1; omega, fun g hg e => by rw [List.mem_singleton.1 hg] at e; have h1 := (HO6.out.lt gi e).1; have h2 := HI5.out.lt; omega, fun g hg e => by rw [List.mem_singleton.1 hg] at e; have h1 := (HQ7.out.lt gi e).1; have h2 := HI6.out.lt; omega, fun g hg => by rw [List.mem_singleton.1 hg]; exact HI7.out.lt⟩
        have e1 := (HI7.out.at_ n i99 (at_two HXL.out).1).p0
        have e2 := (HI7.out.at_ (n + 1) i98 (at_two HXL.out).2).p0
        dsimp only [i99, i98] at e1 e2
        go_upto_region 16 with fail
        clear e1 e2 HO6 HO7 HQ7 HI5 HI6 HI7 HP5 HP6 HP7 HIR5 HIR6 HS6 HS7
        go_loopw [12] (fun i ws => ∃ k : Nat, k ≤ n ∧ i = .int .i64 k ∧ Hid (Mu 22 1 22 1 w (fun W => InsB W gi oi (X ++ [i99, i98])) [gi] (.slice ob7 n cap7) n (encU M) (.slice oa6 n cap6) n ws)) (fun i _ => n - (intOf i).toNat)
        case atStart => exact ⟨0, by omega, rfl, HM7⟩
        case round =>
          obtain ⟨k, hkn, rfl, HM⟩ := hrel
          by_cases hlt : k < n
          · obtain ⟨ys, hy⟩ := HM.out.a
            obtain ⟨ga, rfl, -, -, hcapa⟩ := owns_at hy (by omega)
            obtain ⟨⟨u, e1⟩, e2⟩ := owns_cell hy k (by omega)
            clear hy
            go_wp2_with fail
            exact ⟨⟨k + 1, by omega, by go_num, hid_of (HM.out.set k _)⟩, by simp [intOf]; omega⟩
          · obtain rfl : k = n := by omega
            go_upto_region 20 with fail
            go_loopw [6, 13] (fun av i ws => ∃ j : Nat, j ≤ 5 ∧ i = .int .i64 j ∧ Hid (Mu 22 1 22 1 w (fun W => InsB W gi oi (X ++ [i99, i98])) [gi] (.slice ob7 k cap7) k (encU M) av (k + j) ws)) (fun _ i _ => 5 - (intOf i).toNat)
            case atStart => exact ⟨0, by omega, rfl, HM⟩
            case round =>
              clear HM
              obtain ⟨j, hj5, rfl, HM⟩ := hrel
              obtain ⟨ys, hy⟩ := HM.out.a
              obtain ⟨oa8, cap8, rfl⟩ := owns_len hy
              by_cases hlt : j < 5
              · go_wp2_with (at_builtin; refine wpList_append_own_at _ rfl _ _ 34 rfl w.heap.size 22 j0 (.int .u32 0) 1 4 Tryd.underlying34 hj hy0 hy1 hy2 rfl (by decide) (.slice oa8 (k + j) cap8) (k + j) ys rfl (hy.alloc _) ⟨_, 0, none⟩ 1 1 [.int .u32 7] rfl rfl (news_any _ 22 #[.int .u32 7]) (by simp [Value.oneCell']) (by unfold maxLen; omega) (by omega) (by have := HM.out.pre.le; simp; omega) ?_; intro v9 w9 hown9 hgrow9 _ hblk9)
                exact ⟨⟨j + 1, by omega, by go_num, hid_of (HM.out.more hgrow9 hown9 hblk9)⟩, by simp [intOf]; omega⟩
              · have hj5' : (j : Int) = 5 := by omega
                rw [hj5']
                clear hj5'
                obtain rfl : j = 5 := by omega
                clear hy
                have HB := hid_of HM.out.b
                generalize hxs : encU M = xs at HB
                go_upto_region 24 with (at_builtin; refine wpList_append_own_at _ rfl _ _ 34 rfl w.heap.size 22 j0 (.int .u32 0) 1 4 Tryd.underlying34 hj hy0 hy1 hy2 rfl (by decide) (.slice ob7 k cap7) k xs rfl (HB.out.alloc _) ⟨_, 0, none⟩ 2 2 [.int .u32 201, .int .u32 202] rfl rfl (news_any _ 22 #[.int .u32 201, .int .u32 202]) (by simp [Value.oneCell']) (by unfold maxLen; omega) (by omega) (by have := HM.out.pre.le; simp; omega) ?_; intro v9 w9 hown9 hgrow9 _ _)
                have HP9 := hid_of (pre_grown HM.out.pre HB.out hgrow9 HT0.out)
                have HI9 := hid_of (insB_grown HM.out.k hgrow9 (HM.out.nb gi (by simp)))
                rw [← hxs, ← encU_two] at hown9
                obtain ⟨p9, capb, rfl, hp9⟩ := (owns_u32 (l := M ++ [201, 202]) (by rw [List.length_append, HML.out]; exact hown9)).formN (k + 2) (by rw [List.length_append, HML.out]; rfl)
                obtain ⟨gb, ob, rfl, hU⟩ := hp9 (by omega)
                have hcapb := owns_cap hown9 (by omega)
                have HU9 := hid_of hU
                have HUR9 : Hid (U32sR w9 (.slice (some ⟨gb, ob, none⟩) k capb) M) := .inr ⟨gb, ob, capb, by rw [HML.out], hU.pre⟩
                clear hown9 hgrow9 hp9 hU HB hxs HM
                go_upto_region 25 with (go_at_call 16; refine (hcL _ _ HP9.out.tb HUR9.out).mono ?_; rintro e w10 ⟨⟨v10, rfl, ho10⟩, hB10⟩; obtain ⟨oc10, cap10, rfl⟩ := owns_len ho10; have HP10 := hid_of (HP9.out.step hB10); have HI10 := hid_of (HI9.out.step hB10); have HU10 := hid_of (HU9.out.step hB10); have HUR10 := hid_of (HUR9.out.step hB10); have HO10 := hid_of ho10; clear ho10 hB10)
                go_upto_region 26 with (go_at_call 16; refine (hcL _ _ HP10.out.tb HUR10.out).mono ?_; rintro e w11 ⟨⟨v11, rfl, ho11⟩, hB11⟩; obtain ⟨pd, capd, rfl, hpd⟩ := (owns_ins (l := X) (by rw [HXL.out]; exact ho11)).formN k HXL.out; have HPD := hid_of hpd; have HP11 := hid_of (HP10.out.step hB11); have HI11 := hid_of (HI10.out.step hB11); have HU11 := hid_of (HU10.out.step hB11); have HO11 := hid_of (owns_below' HO10.out hB11); have HQ11 := hid_of ho11; clear ho11 hB11 hpd)
                have HM11 : Hid (Mu 25 6 25 6 w (fun W => InsB W gi oi (X ++ [i99, i98]) ∧ U32B W gb ob (M ++ [201, 202])) [gi, gb] (.slice pd k capd) k (encIs X) (.slice oc10 k cap10) k w11) := ⟨both_stable (insB_stable gi oi _) (u32B_stable gb ob _), HT0.out, HP11.out, ⟨HI11.out, HU11.out⟩, ⟨_, owns_lo HO11.out HP9.out.le⟩, owns_lo HQ11.out HP10.out.le, fun q hq e => by have h1 := (HO10.out.lt q hq).2; have h2 := (HQ11.out.lt q e).1; omega, two_mem (fun e => by have h1 := (HO10.out.lt gi e).1; have h2 := HI9.out.lt; omega) (fun e => by have h1 := (HO10.out.lt gb e).1; have h2 := HU9.out.lt; omega), two_mem (fun e => by have h1 := (HQ11.out.lt gi e).1; have h2 := HI10.out.lt; omega) (fun e => by have h1 := (HQ11.out.lt gb e).1; have h2 := HU10.out.lt; omega), two_mem HI11.out.lt HU11.out.lt⟩
                have e1 := HU11.out.at_ k 201 (at_twoU HML.out).1
                have e2 := HU11.out.at_ (k + 1) 202 (at_twoU HML.out).2
                go_upto_region 29 with fail
                clear e1 e2 HO10 HO11 HQ11 HI9 HI10 HI11 HU9 HU10 HU11 HUR9 HUR10 HP9 HP10 HP11 hcW hcL
                go_loopw [18] (fun i ws => ∃ j : Nat, j ≤ k ∧ i = .int .i64 j ∧ Hid (Mu 25 6 25 6 w (fun W => InsB W gi oi (X ++ [i99, i98]) ∧ U32B W gb ob (M ++ [201, 202])) [gi, gb] (.slice pd k capd) k (encIs X) (.slice oc10 k cap10) k ws)) (fun i _ => k - (intOf i).toNat)
                case atStart => exact ⟨0, by omega, rfl, HM11⟩
                case round =>
                  clear HM11
                  obtain ⟨j, hjk, rfl, HM⟩ := hrel
                  by_cases hlt : j < k
                  · obtain ⟨ys, hy⟩ := HM.out.a
                    obtain ⟨gc, rfl, -, -, hcapc⟩ := owns_at hy (by omega)
                    obtain ⟨⟨u0, c0⟩, f0⟩ := owns_cell hy (j * 6) (by omega)
                    obtain ⟨⟨u1, c1⟩, f1⟩ := owns_cell hy (j * 6 + 1) (by omega)
                    obtain ⟨⟨u2, c2⟩, f2⟩ := owns_cell hy (j * 6 + 2) (by omega)
                    obtain ⟨⟨u3, c3⟩, f3⟩ := owns_cell hy (j * 6 + 3) (by omega)
                    obtain ⟨⟨u4, c4⟩, f4⟩ := owns_cell hy (j * 6 + 4) (by omega)
                    obtain ⟨⟨u5, c5⟩, f5⟩ := owns_cell hy (j * 6 + 5) (by omega)
                    clear hy
                    go_wp2_with fail
                    exact ⟨⟨j + 1, by omega, by go_num, hid_of ((((((HM.out.set (j * 6) _).set (j * 6 + 1) _).set (j * 6 + 2) _).set (j * 6 + 3) _).set (j * 6 + 4) _).set (j * 6 + 5) _)⟩, by simp [intOf]; omega⟩
                  · obtain rfl : j = k := by omega
                    go_upto_region 33 with fail
                    go_loopw [14, 19] (fun cv i ws => ∃ m : Nat, m ≤ 5 ∧ i = .int .i64 m ∧ Hid (Mu 25 6 25 6 w (fun W => InsB W gi oi (X ++ [i99, i98]) ∧ U32B W gb ob (M ++ [201, 202])) [gi, gb] (.slice pd j capd) j (encIs X) cv (j + m) ws)) (fun _ i _ => 5 - (intOf i).toNat)
                    case atStart => exact ⟨0, by omega, rfl, HM⟩
                    case round =>
                      clear HM
                      obtain ⟨m, hm5, rfl, HM⟩ := hrel
                      obtain ⟨ys, hy⟩ := HM.out.a
                      obtain ⟨oc12, cap12, rfl⟩ := owns_len hy
                      by_cases hlt : m < 5
                      · go_wp2_with (at_builtin; refine wpList_append_own_at _ rfl _ _ 33 rfl w.heap.size 25 i0 (insV zeroI) 6 48 Tryd.underlying33 hi hz0 hz1 hz2 rfl (by decide) (.slice oc12 (j + m) cap12) (j + m) ys rfl (hy.alloc _) ⟨_, 0, none⟩ 1 1 [.int .i64 0, .int .i64 0, .int .i64 0, .int .i64 0, .int .i64 0, .int .i64 0] rfl rfl (news_any _ 25 #[.int .i64 0, .int .i64 0, .int .i64 0, .int .i64 0, .int .i64 0, .int .i64 0]) (by simp [Value.oneCell']) (by unfold maxLen; omega) (by omega) (by have := HM.out.pre.le; simp; omega) ?_; intro v13 w13 hown13 hgrow13 _ hblk13)
                        exact ⟨⟨m + 1, by omega, by go_num, hid_of (HM.out.more hgrow13 hown13 hblk13)⟩, by simp [intOf]; omega⟩
                      · have hm5' : (m : Int) = 5 := by omega
                        rw [hm5']
                        clear hm5'
                        obtain rfl : m = 5 := by omega
                        clear hy
                        go_upto_region 37 with fail
                        go_loopw [20] (fun i ws => ∃ m : Nat, m ≤ j ∧ i = .int .i64 m ∧ Hid (Mu 25 6 25 6 w (fun W => InsB W gi oi (X ++ [i99, i98]) ∧ U32B W gb ob (M ++ [201, 202])) [gi, gb] (.slice pd j capd) j (encIs X) (.slice oc12 (j + 5) cap12) (j + 5) ws)) (fun i _ => j - (intOf i).toNat)
                        case atStart => exact ⟨0, by omega, rfl, HM⟩
                        case round =>
                          clear HM
                          obtain ⟨m, hmj, rfl, HM⟩ := hrel
                          by_cases hlt : m < j
                          · obtain ⟨gd, od, rfl, -⟩ := HPD.out (by omega)
                            obtain ⟨x, hx⟩ : ∃ x, X[m]? = some x := ⟨_, List.getElem?_eq_getElem (by have := HXL.out; omega)⟩
                            obtain ⟨y, hd⟩ := Option.isSome_iff_exists.1 (HX.out x (List.mem_of_getElem? hx)).1
                            obtain ⟨op, rd, rn, rm, imm, cond⟩ := x
                            have hS : ∀ W, Mu 25 6 25 6 w (fun W => InsB W gi oi (X ++ [i99, i98]) ∧ U32B W gb ob (M ++ [201, 202])) [gi, gb] (.slice (some ⟨gd, od, none⟩) j capd) j (encIs X) (.slice oc12 (j + 5) cap12) (j + 5) W → W.cell? ⟨gd, od + m * 6, none⟩ = some (.int .i64 op) ∧ W.cell? ⟨gd, od + m * 6 + 1, none⟩ = some (.int .i64 rd) ∧ W.cell? ⟨gd, od + m * 6 + 2, none⟩ = some (.int .i64 rn) ∧ W.cell? ⟨gd, od + m * 6 + 3, none⟩ = some (.int .i64 rm) ∧ W.cell? ⟨gd, od + m * 6 + 4, none⟩ = some (.int .i64 imm) ∧ W.cell? ⟨gd, od + m * 6 + 5, none⟩ = some (.int .i64 cond) ∧ W.cell? ⟨gi, oi + m * 6, none⟩ = some (.int .i64 op) ∧ W.cell? ⟨gi, oi + m * 6 + 1, none⟩ = some (.int .i64 rd) ∧ W.cell? ⟨gi, oi + m * 6 + 2, none⟩ = some (.int .i64 rn) ∧ W.cell? ⟨gi, oi + m * 6 + 3, none⟩ = some (.int .i64 rm) ∧ W.cell? ⟨gi, oi + m * 6 + 4, none⟩ = some (.int .i64 imm) ∧ W.cell? ⟨gi, oi + m * 6 + 5, none⟩ = some (.int .i64 cond) ∧ W.cell? ⟨gb, ob + m, none⟩ = some (.int .u32 (y : Int)) := fun W h => by
                              have h1 := (insB_own h.b HXL.out (by omega)).at_ m _ hx
                              have h2 := h.k.1.pre.at_ m _ hx
                              have h3 := h.k.2.pre.at_ m y (by rw [HMM.out, List.getElem?_map, hx]; simp [hd])
                              exact ⟨h1.p0, h1.p1, h1.p2, h1.p3, h1.p4, h1.p5, h2.p0, h2.p1, h2.p2, h2.p3, h2.p4, h2.p5, h3⟩
                            have hc2 : ∀ W, Calls Tryd.prog 14 #[.agg #[.int .i64 op, .int .i64 rd, .int .i64 rn, .int .i64 rm, .int .i64 imm, .int .i64 cond]] W fun e w' => e = .returned (.agg #[.int .i64 op, .int .i64 rd, .int .i64 rn, .int .i64 rm, .int .i64 imm, .int .i64 cond]) ∧ Below W.heap.size W w' := fun W => l14Ref_calls ⟨op, rd, rn, rm, imm, cond⟩ W
                            have hc3 : ∀ W, Calls Tryd.prog 15 #[.agg #[.int .i64 op, .int .i64 rd, .int .i64 rn, .int .i64 rm, .int .i64 imm, .int .i64 cond]] W fun e w' => e = .returned (.int .u32 (y : Int)) ∧ Below W.heap.size W w' := fun W => ref_word hd W
                            have HQ1 : Hid (∀ W, (Op.equalIn 10000 25 (.agg #[.int .i64 op, .int .i64 rd, .int .i64 rn, .int .i64 rm, .int .i64 imm, .int .i64 cond]) (.agg #[.int .i64 op, .int .i64 rd, .int .i64 rn, .int .i64 rm, .int .i64 imm, .int .i64 cond])).run Tryd.prog W = .ok true W) := fun W => (ins_eqIn W ⟨op, rd, rn, rm, imm, cond⟩ ⟨op, rd, rn, rm, imm, cond⟩).trans (by rw [insEq_self])
                            have hS6 := hS _ HM.out
                            clear hx hd
                            have hq1 := HQ1.out
                            have hb1 : (0 : Int) ≤ (m : Int) := by omega
                            have hb2 : (m : Int) < (j : Int) := by omega
                            have hb3 : (m : Int) < (j : Int) + 2 := by omega
                            have hb4 : m < j + 2 := by omega
                            go_upto_region 39 with fail
                            go_region_held3 (fun W => W.cell? ⟨gd, od + m * 6, none⟩ = some (.int .i64 op) ∧ W.cell? ⟨gd, od + m * 6 + 1, none⟩ = some (.int .i64 rd) ∧ W.cell? ⟨gd, od + m * 6 + 2, none⟩ = some (.int .i64 rn) ∧ W.cell? ⟨gd, od + m * 6 + 3, none⟩ = some (.int .i64 rm) ∧ W.cell? ⟨gd, od + m * 6 + 4, none⟩ = some (.int .i64 imm) ∧ W.cell? ⟨gd, od + m * 6 + 5, none⟩ = some (.int .i64 cond) ∧ W.cell? ⟨gi, oi + m * 6, none⟩ = some (.int .i64 op) ∧ W.cell? ⟨gi, oi + m * 6 + 1, none⟩ = some (.int .i64 rd) ∧ W.cell? ⟨gi, oi + m * 6 + 2, none⟩ = some (.int .i64 rn) ∧ W.cell? ⟨gi, oi + m * 6 + 3, none⟩ = some (.int .i64 rm) ∧ W.cell? ⟨gi, oi + m * 6 + 4, none⟩ = some (.int .i64 imm) ∧ W.cell? ⟨gi, oi + m * 6 + 5, none⟩ = some (.int .i64 cond) ∧ W.cell? ⟨gb, ob + m, none⟩ = some (.int .u32 (y : Int))) (first | assumption | exact hS6 | exact hS7 | exact hS8) (first | (go_at_call 14; refine (hc2 _).mono ?_; rintro e w14 ⟨rfl, hB14⟩; have hW7 := (HM.out.below (Below.refl _ _).drew).below hB14; have hS7 := hS _ hW7) | (go_at_call 15; refine (hc3 _).mono ?_; rintro e w15 ⟨rfl, hB15⟩; have hW8 := hW7.below hB15; have hS8 := hS _ hW8))
                            have HM8 := hid_of hW8
                            clear hS6 hS7 hS8 hB14 hB15 hW8 hW7 hS
                            go_wp2_with fail
                            first
                              | exact ⟨⟨m + 1, by omega, by go_num, HM8⟩, by simp [intOf]; omega⟩
                              | (refine ⟨⟨_, _, _, _, _, _, _, _, _, _, _, _, _, _, _, _, _, _, _, _, _, _, _, _, _, _, _, _, _, ?_, rfl⟩, ?_⟩
                                 · exact ⟨m + 1, by omega, by go_num, HM8⟩
                                 · simp [intOf]; omega)
                          · obtain rfl : m = j := by omega
                            go_wp2_with fail
                            go_ret
                            exact ⟨rfl, HM.out.pre.bel⟩
end Go.Proofs.YtbggcofnopaloabDoor
