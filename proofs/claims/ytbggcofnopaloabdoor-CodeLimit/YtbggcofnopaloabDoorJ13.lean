/- Lists of instructions and of words in memory. -/
import Derived.Test.YtbggcofnopaloabDoorJ12
import Derived.Maps.AppendAt
import Derived.OwnWalk
namespace Go.Proofs.YtbggcofnopaloabDoor
open Go.RowKit Sx
structure InsAt (W : World) (b o : Nat) (i : Ins) : Prop where
  p0 : W.cell? ⟨b, o, none⟩ = some (.int .i64 i.op)
  p1 : W.cell? ⟨b, o + 1, none⟩ = some (.int .i64 i.rd)
  p2 : W.cell? ⟨b, o + 2, none⟩ = some (.int .i64 i.rn)
  p3 : W.cell? ⟨b, o + 3, none⟩ = some (.int .i64 i.rm)
  p4 : W.cell? ⟨b, o + 4, none⟩ = some (.int .i64 i.imm)
  p5 : W.cell? ⟨b, o + 5, none⟩ = some (.int .i64 i.cond)
theorem InsAt.below {W W' : World} {b o n : Nat} {i : Ins} (h : InsAt W b o i) (hb : Below n W W') (hn : b < n) : InsAt W' b o i :=
  ⟨(hb.cell (p := ⟨b, o, none⟩) hn).trans h.p0, (hb.cell (p := ⟨b, o + 1, none⟩) hn).trans h.p1, (hb.cell (p := ⟨b, o + 2, none⟩) hn).trans h.p2, (hb.cell (p := ⟨b, o + 3, none⟩) hn).trans h.p3, (hb.cell (p := ⟨b, o + 4, none⟩) hn).trans h.p4, (hb.cell (p := ⟨b, o + 5, none⟩) hn).trans h.p5⟩
structure InsB (W : World) (b o : Nat) (l : List Ins) : Prop where
  lt : b < W.heap.size
  at_ : ∀ (j : Nat) (i : Ins), l[j]? = some i → InsAt W b (o + j * 6) i
def InssR (W : World) (v : Value) (l : List Ins) : Prop := (∃ a cap, v = .slice a 0 cap ∧ l = []) ∨ ∃ b o cap, v = .slice (some ⟨b, o, none⟩) l.length cap ∧ InsB W b o l
structure U32B (W : World) (b o : Nat) (l : List Nat) : Prop where
  lt : b < W.heap.size
  at_ : ∀ (j x : Nat), l[j]? = some x → W.cell? ⟨b, o + j, none⟩ = some (.int .u32 (x : Int))
def U32sR (W : World) (v : Value) (l : List Nat) : Prop := (∃ a cap, v = .slice a 0 cap ∧ l = []) ∨ ∃ b o cap, v = .slice (some ⟨b, o, none⟩) l.length cap ∧ U32B W b o l
theorem InsB.below {W W' : World} {b o n : Nat} {l : List Ins} (h : InsB W b o l) (hb : Below n W W') (hn : b < n) : InsB W' b o l :=
  ⟨Nat.lt_of_lt_of_le h.lt hb.size, fun j i hj => (h.at_ j i hj).below hb hn⟩
theorem U32B.below {W W' : World} {b o n : Nat} {l : List Nat} (h : U32B W b o l) (hb : Below n W W') (hn : b < n) : U32B W' b o l :=
  ⟨Nat.lt_of_lt_of_le h.lt hb.size, fun j x hj => (hb.cell (p := ⟨b, o + j, none⟩) hn).trans (h.at_ j x hj)⟩
theorem InsB.step {W W' : World} {b o : Nat} {l : List Ins} (h : InsB W b o l) (hb : Below W.heap.size W W') : InsB W' b o l := h.below hb h.lt
theorem U32B.step {W W' : World} {b o : Nat} {l : List Nat} (h : U32B W b o l) (hb : Below W.heap.size W W') : U32B W' b o l := h.below hb h.lt
theorem InssR.step {W W' : World} {v : Value} {l : List Ins} (h : InssR W v l) (hb : Below W.heap.size W W') : InssR W' v l := by
  rcases h with h | ⟨b, o, cap, e, h⟩
  · exact .inl h
  · exact .inr ⟨b, o, cap, e, h.step hb⟩
theorem U32sR.step {W W' : World} {v : Value} {l : List Nat} (h : U32sR W v l) (hb : Below W.heap.size W W') : U32sR W' v l := by
  rcases h with h | ⟨b, o, cap, e, h⟩
  · exact .inl h
  · exact .inr ⟨b, o, cap, e, h.step hb⟩
theorem InssR.form {W : World} {v : Value} {l : List Ins} (h : InssR W v l) : ∃ p cap, v = .slice p l.length cap ∧ (0 < l.length → ∃ b o, p = some ⟨b, o, none⟩ ∧ InsB W b o l) := by
  rcases h with ⟨a, cap, rfl, rfl⟩ | ⟨b, o, cap, rfl, h⟩
  · exact ⟨a, cap, rfl, fun h => by cases h⟩
  · exact ⟨_, cap, rfl, fun _ => ⟨b, o, rfl, h⟩⟩
theorem U32sR.form {W : World} {v : Value} {l : List Nat} (h : U32sR W v l) : ∃ p cap, v = .slice p l.length cap ∧ (0 < l.length → ∃ b o, p = some ⟨b, o, none⟩ ∧ U32B W b o l) := by
  rcases h with ⟨a, cap, rfl, rfl⟩ | ⟨b, o, cap, rfl, h⟩
  · exact ⟨a, cap, rfl, fun h => by cases h⟩
  · exact ⟨_, cap, rfl, fun _ => ⟨b, o, rfl, h⟩⟩
def encU (l : List Nat) : List Value := l.map fun x => .int .u32 ((x : Nat) : Int)
def encIs (l : List Ins) : List Value := l.flatMap fun i => (insC i).toList
theorem encU_snoc (l : List Nat) (x : Nat) : encU (l ++ [x]) = encU l ++ [.int .u32 ((x : Nat) : Int)] := by simp [encU]
theorem encIs_snoc (l : List Ins) (i : Ins) : encIs (l ++ [i]) = encIs l ++ (insC i).toList := by simp [encIs]
theorem encIs_at : ∀ (l : List Ins) (j : Nat) (i : Ins), l[j]? = some i → ∀ f v, (insC i).toList[f]? = some v → (encIs l)[j * 6 + f]? = some v
  | [], j, i, h, _, _, _ => by cases h
  | i0 :: l, 0, i, h, f, v, hv => by
    obtain rfl : i0 = i := by simpa using h
    have e : encIs (i0 :: l) = (insC i0).toList ++ encIs l := by simp [encIs]
    have hf : f < (insC i0).toList.length := (List.getElem?_eq_some_iff.1 hv).1
    rw [e, Nat.zero_mul, Nat.zero_add, List.getElem?_append_left hf]
    exact hv
  | i0 :: l, j + 1, i, h, f, v, hv => by
    have e : encIs (i0 :: l) = (insC i0).toList ++ encIs l := by simp [encIs]
    have ih := encIs_at l j i (by simpa using h) f v hv
    have hl : (insC i0).toList.length = 6 := rfl
    rw [e, List.getElem?_append_right (by rw [hl]; omega), hl]
    rw [show (j + 1) * 6 + f - 6 = j * 6 + f by omega]
    exact ih
theorem owns_u32 {W : World} {base : Nat} {v : Value} {l : List Nat} (h : W.ownsRow base 22 1 v l.length (encU l)) : U32sR W v l := by
  rcases h.2 with ⟨rfl, e⟩ | ⟨g, cap, cur, rfl, hg, hb, h1, h2, h3, h4⟩
  · exact .inl ⟨none, 0, by rfl, List.eq_nil_of_length_eq_zero e⟩
  · refine .inr ⟨g, 0, cap, rfl, (Array.getElem?_eq_some_iff.1 hb).1, fun j x hj => ?_⟩
    have hj2 : j < l.length := (List.getElem?_eq_some_iff.1 hj).1
    have : cur[j]? = some (.int .u32 (x : Int)) := by
      have h5 : (encU l)[j]? = some (.int .u32 (x : Int)) := by simp [encU, hj]
      rw [← h4, List.getElem?_take, if_pos (by omega)] at h5
      simpa using h5
    rw [Nat.zero_add]
    exact Blk.cell hb this
theorem owns_ins {W : World} {base : Nat} {v : Value} {l : List Ins} (h : W.ownsRow base 25 6 v l.length (encIs l)) : InssR W v l := by
  rcases h.2 with ⟨rfl, e⟩ | ⟨g, cap, cur, rfl, hg, hb, h1, h2, h3, h4⟩
  · exact .inl ⟨none, 0, by rfl, List.eq_nil_of_length_eq_zero e⟩
  · refine .inr ⟨g, 0, cap, rfl, (Array.getElem?_eq_some_iff.1 hb).1, fun j i hj => ?_⟩
    have hj2 : j < l.length := (List.getElem?_eq_some_iff.1 hj).1
    have key : ∀ f u, f < 6 → (insC i).toList[f]? = some u → W.cell? ⟨g, 0 + j * 6 + f, none⟩ = some u := fun f u hf hu => by
      have h5 := encIs_at l j i hj f u hu
      rw [← h4, List.getElem?_take, if_pos (by omega)] at h5
      rw [Nat.zero_add]
      exact Blk.cell hb (by simpa using h5)
    exact ⟨key 0 _ (by omega) rfl, key 1 _ (by omega) rfl, key 2 _ (by omega) rfl, key 3 _ (by omega) rfl, key 4 _ (by omega) rfl, key 5 _ (by omega) rfl⟩
theorem Tryd.infou32 : (Tryd.prog.info? 22).map (fun i => (i.zero, i.size, i.bytes)) = some (some (.int .u32 0), 1, 4) := by kernel_rfl
theorem Tryd.infoins : (Tryd.prog.info? 25).map (fun i => (i.zero, i.size, i.bytes)) = some (some (insV zeroI), 6, 48) := by kernel_rfl
theorem make_u32s (n : Nat) (h : n ≤ 65536) (w : World) : (Instr.makeSlice 34 (.int .i64 0) (.int .i64 n)).run Tryd.prog w = .ok (.slice (some ⟨w.heap.size, 0, none⟩) 0 n) (w.alloc (.cells (madeCells #[.int .u32 0] n) 22)) := by
  obtain ⟨i, hx, hz, hs, hb⟩ := info_parts Tryd.infou32
  have := run_make (P := Tryd.prog) w 34 22 i _ Tryd.underlying34 hx hz .i64 .i64 0 n (by omega) (by omega) (by rw [hb]; omega) (by omega)
  rw [this, hs, Int.toNat_natCast, Nat.mul_one]
  rfl
theorem make_inss (n : Nat) (h : n ≤ 65536) (w : World) : (Instr.makeSlice 33 (.int .i64 0) (.int .i64 n)).run Tryd.prog w = .ok (.slice (some ⟨w.heap.size, 0, none⟩) 0 n) (w.alloc (.cells (madeCells (insC zeroI) (n * 6)) 25)) := by
  obtain ⟨i, hx, hz, hs, hb⟩ := info_parts Tryd.infoins
  have := run_make (P := Tryd.prog) w 33 25 i _ Tryd.underlying33 hx hz .i64 .i64 0 n (by omega) (by omega) (by rw [hb]; omega) (by omega)
  rw [this, hs, Int.toNat_natCast]
  rfl
theorem owns_made {w : World} {e : TypeId} {size n : Nat} {cur : Array Value} (hc : cur.size = n * size) (hn : n ≤ maxLen) : (w.alloc (.cells cur e)).ownsRow w.heap.size e size (.slice (some ⟨w.heap.size, 0, none⟩) 0 n) 0 [] :=
  ⟨by simp, .inr ⟨w.heap.size, n, cur, rfl, Nat.le_refl _, Blk.new w e cur, Nat.zero_le _, hn, hc, by simp⟩⟩
theorem owns_below' {w w' : World} {base : Nat} {e : TypeId} {size : Nat} {v : Value} {n : Nat} {xs : List Value} (h : w.ownsRow base e size v n xs) (hb : Below w.heap.size w w') : w'.ownsRow base e size v n xs := by
  refine ⟨h.1, ?_⟩
  rcases h.2 with h | ⟨g, cap, cur, h1, h2, h3, h4⟩
  · exact .inl h
  · exact .inr ⟨g, cap, cur, h1, h2, (hb.block g (Array.getElem?_eq_some_iff.1 h3).1).trans h3, h4⟩
theorem owns_lo {w : World} {base b' : Nat} {e : TypeId} {size : Nat} {v : Value} {n : Nat} {xs : List Value} (h : w.ownsRow base e size v n xs) (hb : b' ≤ base) : w.ownsRow b' e size v n xs := by
  refine ⟨h.1, ?_⟩
  rcases h.2 with h2 | ⟨g, cap, cur, h3, h4, h5⟩
  · exact .inl h2
  · exact .inr ⟨g, cap, cur, h3, by omega, h5⟩
end Go.Proofs.YtbggcofnopaloabDoor
namespace Go.Proofs.YtbggcofnopaloabDoor
open Go.RowKit Sx
def turnWAns (w : World) (l : List Ins) (e : Ending) (w' : World) : Prop := Below w.heap.size w w' ∧
  ((16384 < l.length ∧ e = .returned (.tuple #[.slice none 0 0, .int .i64 16384, .int .i64 2])) ∨ (l.length ≤ 16384 ∧
    ((∃ (k : Nat) (x : Ins), l[k]? = some x ∧ encI x = none ∧ (∀ (j : Nat) (y : Ins), j < k → l[j]? = some y → (encI y).isSome = true) ∧ e = .returned (.tuple #[.slice none 0 0, .int .i64 (k : Int), .int .i64 7])) ∨
     ((∀ (j : Nat) (y : Ins), j < l.length → l[j]? = some y → (encI y).isSome = true) ∧ ∃ v, e = .returned (.tuple #[v, .int .i64 0, .int .i64 0]) ∧ w'.ownsRow w.heap.size 22 1 v l.length (encU (l.map fun x => (encI x).getD 0))))))
structure turnWAt (w : World) (l : List Ins) (k : Nat) (v : Value) (W : World) : Prop where
  own : W.ownsRow w.heap.size 22 1 v k (encU ((l.take k).map fun x => (encI x).getD 0))
  pre : Pre w.heap.size w W
  good : ∀ (j : Nat) (y : Ins), j < k → l[j]? = some y → (encI y).isSome = true
theorem turnWAt.new {w : World} (hT : Tb w) (l : List Ins) (n : Nat) (hn : n ≤ 65536) : turnWAt w l 0 (.slice (some ⟨w.heap.size, 0, none⟩) 0 n) (w.alloc (.cells (madeCells #[.int .u32 0] n) 22)) := by
  have hb := (Below.refl w.heap.size w).alloc (Nat.le_refl _) (.cells (madeCells #[.int .u32 0] n) 22)
  refine ⟨?_, (Pre.refl hT).step hb, fun j y hj => absurd hj (by omega)⟩
  exact owns_made (by rw [size_madeCells, Nat.mul_one]) (by unfold maxLen; omega)
theorem turnWAt.next {w W W' : World} {l : List Ins} {k : Nat} {v v' : Value} {x : Ins} {y : Nat} (h : turnWAt w l k v W) (hx : l[k]? = some x) (hy : encI x = some y) (hP : Pre w.heap.size w W') (ho : W'.ownsRow w.heap.size 22 1 v' (k + 1) (encU ((l.take k).map fun x => (encI x).getD 0) ++ [.int .u32 (y : Int)])) : turnWAt w l (k + 1) v' W' := by
  refine ⟨?_, hP, fun j z hj hz => ?_⟩
  · have hk : k < l.length := (List.getElem?_eq_some_iff.1 hx).1
    have e : (l.take (k + 1)).map (fun x => (encI x).getD 0) = (l.take k).map (fun x => (encI x).getD 0) ++ [y] := by
      rw [List.take_add_one, hx, List.map_append]
      simp [hy]
    rw [e, encU_snoc]
    exact ho
  · by_cases e : j = k
    · subst e
      rw [hx] at hz
      obtain rfl := Option.some.inj hz
      rw [hy]
      rfl
    · exact h.good j z (by omega) hz
theorem news_u32 (w : World) (x : Nat) : ∀ j u, ([.int .u32 (x : Int)] : List Value)[j]? = some u → (w.alloc (.cells #[.int .u32 (x : Int)] 22)).cell? ((⟨w.heap.size, 0, none⟩ : Addr).add j) = some u := by
  intro j u hj
  rw [Addr.add_lit, Nat.zero_add]
  exact (Blk.new w 22 #[.int .u32 (x : Int)]).cell (by simpa using hj)
theorem news_ins (w : World) (i : Ins) : ∀ j u, (insC i).toList[j]? = some u → (w.alloc (.cells (insC i) 25)).cell? ((⟨w.heap.size, 0, none⟩ : Addr).add j) = some u := by
  intro j u hj
  rw [Addr.add_lit, Nat.zero_add]
  exact (Blk.new w 25 (insC i)).cell (by simpa using hj)
theorem owns_len {w : World} {base : Nat} {e : TypeId} {size : Nat} {v : Value} {n : Nat} {xs : List Value} (h : w.ownsRow base e size v n xs) : ∃ a cap, v = .slice a n cap := by
  rcases h.2 with ⟨rfl, rfl⟩ | ⟨g, cap, cur, rfl, _⟩
  · exact ⟨_, _, rfl⟩
  · exact ⟨_, _, rfl⟩
theorem pre_grown {w W W' : World} {e : TypeId} {size : Nat} {v : Value} {n : Nat} {xs : List Value} {o : Obj} (h : Pre w.heap.size w W) (ho : W.ownsRow w.heap.size e size v n xs) (hg : (W.alloc o).grownBy W' v.ownBlock) (hw : 0 < w.heap.size) : Pre w.heap.size w W' := by
  have hb : Below w.heap.size w W' := (h.bel.alloc h.le o).grown hg (by have := h.le; simp; omega) (fun q e => (ho.lt q e).1)
  have hT := h.tb
  have hz := hg.size
  rw [World.size_alloc] at hz
  refine ⟨?_, hb, by have := h.le; omega⟩
  have h0 : Below 1 W W' := ((Below.refl 1 W).alloc hT.lt o).grown hg (by have := hT.lt; simp only [World.size_alloc]; omega) (fun q e => by have := (ho.lt q e).1; omega)
  exact hT.below (by decide) h0
set_option maxRecDepth 100000 in
set_option maxHeartbeats 8000000 in
theorem turnW_calls (v : Value) (l : List Ins) (w : World) (hT : Tb w) (hv : InssR w v l) (hop : ∀ i ∈ l, -9223372036854775808 ≤ i.op ∧ i.op ≤ 9223372036854775807) (hlen : l.length ≤ 9223372036854775807) :
    Calls Tryd.prog 24 #[v, .func (.func 10) #[] #[]] w (turnWAns w l) := by
  obtain ⟨p, cap, rfl, hp⟩ := hv.form
  by_cases hbig : 16384 < l.length
  · have hb2 : (16384 : Int) < (l.length : Int) := by omega
    have HA : Hid (turnWAns w l (.returned (.tuple #[.slice none 0 0, .int .i64 16384, .int .i64 2])) w) := ⟨Below.refl _ _, .inl ⟨hbig, rfl⟩⟩
    clear hbig hp hv hT hop
    go_enter Tryd.func24, Tryd.ntmps24
    go_wp2_with fail
    go_ret3
    exact HA.out
  · have hb2 : decide ((16384 : Int) < (l.length : Int)) = false := by simp; omega
    have hmk := make_u32s l.length (by omega)
    obtain ⟨i0, hi, hz0, hz1, hz2⟩ := info_parts Tryd.infou32
    have HP := hid_of hp
    have HT0 := hid_of hT.lt
    have HN := hid_of (turnWAt.new hT l l.length (by omega))
    clear hp hv hT
    go_enter Tryd.func24, Tryd.ntmps24
    go_upto_region 5 with fail
    go_loopw [4, 19] (fun ov i wr => ∃ k : Nat, i = .int .i64 (k : Int) ∧ k ≤ l.length ∧ Hid (turnWAt w l k ov wr)) (fun _ i _ => l.length - (intOf i).toNat)
    case atStart => exact ⟨0, rfl, Nat.zero_le _, HN⟩
    case round =>
      obtain ⟨k, rfl, hk, HA⟩ := hrel
      by_cases hlt : k < l.length
      · obtain ⟨b, o, rfl, hB⟩ := HP.out (by omega)
        obtain ⟨x, hx⟩ : ∃ x, l[k]? = some x := ⟨_, List.getElem?_eq_getElem hlt⟩
        obtain ⟨op, rd, rn, rm, imm, cond⟩ := x
        obtain ⟨c0, c1, c2, c3, c4, c5⟩ := (hB.below HA.out.pre.bel hB.lt).at_ k _ hx
        dsimp only at c0 c1 c2 c3 c4 c5
        have hxo := hop _ (List.mem_of_getElem? hx)
        cases hd : encI ⟨op, rd, rn, rm, imm, cond⟩ with
        | none =>
          have HD := hid_of hd
          have hc : ∀ W, Tb W → Calls Tryd.prog 10 #[.agg #[.int .i64 op, .int .i64 rd, .int .i64 rn, .int .i64 rm, .int .i64 imm, .int .i64 cond]] W fun e w' => e = .returned (.tuple #[.int .u32 0, .int .i64 7]) ∧ Below W.heap.size W w' := fun W h => by
            have := cdEncode_calls ⟨op, rd, rn, rm, imm, cond⟩ W h hxo
            rw [hd] at this
            exact this
          clear hd hxo hB hop
          go_upto_region 7 with (refine wpList_store_row rfl 25 _ _ rfl wr.heap.size (insC ⟨op, rd, rn, rm, imm, cond⟩) rfl rfl 25 (insC zeroI) (Blk.new wr _ _) (by kernel_rfl) rfl (insC_all _) ?_)
          have hO := HA.out.pre.row ⟨op, rd, rn, rm, imm, cond⟩ (insC zeroI)
          have hA5 := HA.out.pre.step (row_new wr (insC ⟨op, rd, rn, rm, imm, cond⟩) (insC zeroI)).2
          have HOW := hid_of (owns_below' HA.out.own (row_new wr (insC ⟨op, rd, rn, rm, imm, cond⟩) (insC zeroI)).2)
          have HP5 := hid_of hA5
          generalize hw : (wr.alloc (.cells (insC zeroI) 25)).setRow wr.heap.size (insC ⟨op, rd, rn, rm, imm, cond⟩) = w5 at *
          have hw' : (wr.alloc (.cells #[.int .i64 0, .int .i64 0, .int .i64 0, .int .i64 0, .int .i64 0, .int .i64 0] 25)).setRow wr.heap.size (insC ⟨op, rd, rn, rm, imm, cond⟩) = w5 := hw
          have hw'' : (wr.alloc (.cells #[.int .i64 0, .int .i64 0, .int .i64 0, .int .i64 0, .int .i64 0, .int .i64 0] 25)).setRow wr.heap.size #[.int .i64 op, .int .i64 rd, .int .i64 rn, .int .i64 rm, .int .i64 imm, .int .i64 cond] = w5 := hw
          try first | rw [hw'] | rw [hw'']
          clear hw hw' hw''
          obtain ⟨d0, d1, d2, d3, d4, d5⟩ := InS.of hO.a
          dsimp only at d0 d1 d2 d3 d4 d5
          clear hO hA5 c0 c1 c2 c3 c4 c5
          go_wp2_with (first | (go_at_call 10; refine (hc _ HP5.out.tb).mono ?_; rintro e w6 ⟨rfl, hB6⟩; have HP6 := hid_of (HP5.out.step hB6); have HO6 := hid_of (owns_below' HOW.out hB6); clear hB6))
          go_ret3
          exact ⟨HP6.out.bel, .inr ⟨by omega, .inl ⟨k, ⟨op, rd, rn, rm, imm, cond⟩, hx, HD.out, HA.out.good, rfl⟩⟩⟩
        | some y =>
          have HD := hid_of hd
          have hc : ∀ W, Tb W → Calls Tryd.prog 10 #[.agg #[.int .i64 op, .int .i64 rd, .int .i64 rn, .int .i64 rm, .int .i64 imm, .int .i64 cond]] W fun e w' => e = .returned (.tuple #[.int .u32 (y : Int), .int .i64 0]) ∧ Below W.heap.size W w' := fun W h => by
            have := cdEncode_calls ⟨op, rd, rn, rm, imm, cond⟩ W h hxo
            rw [hd] at this
            exact this
          clear hd hxo hB hop
          go_upto_region 7 with (refine wpList_store_row rfl 25 _ _ rfl wr.heap.size (insC ⟨op, rd, rn, rm, imm, cond⟩) rfl rfl 25 (insC zeroI) (Blk.new wr _ _) (by kernel_rfl) rfl (insC_all _) ?_)
          have hO := HA.out.pre.row ⟨op, rd, rn, rm, imm, cond⟩ (insC zeroI)
          have hA5 := HA.out.pre.step (row_new wr (insC ⟨op, rd, rn, rm, imm, cond⟩) (insC zeroI)).2
          have HOW := hid_of (owns_below' HA.out.own (row_new wr (insC ⟨op, rd, rn, rm, imm, cond⟩) (insC zeroI)).2)
          have HP5 := hid_of hA5
          generalize hw : (wr.alloc (.cells (insC zeroI) 25)).setRow wr.heap.size (insC ⟨op, rd, rn, rm, imm, cond⟩) = w5 at *
          have hw' : (wr.alloc (.cells #[.int .i64 0, .int .i64 0, .int .i64 0, .int .i64 0, .int .i64 0, .int .i64 0] 25)).setRow wr.heap.size (insC ⟨op, rd, rn, rm, imm, cond⟩) = w5 := hw
          have hw'' : (wr.alloc (.cells #[.int .i64 0, .int .i64 0, .int .i64 0, .int .i64 0, .int .i64 0, .int .i64 0] 25)).setRow wr.heap.size #[.int .i64 op, .int .i64 rd, .int .i64 rn, .int .i64 rm, .int .i64 imm, .int .i64 cond] = w5 := hw
          try first | rw [hw'] | rw [hw'']
          clear hw hw' hw''
          obtain ⟨d0, d1, d2, d3, d4, d5⟩ := InS.of hO.a
          dsimp only at d0 d1 d2 d3 d4 d5
          clear hO hA5 c0 c1 c2 c3 c4 c5
          have hlk : k ≤ 16384 := by omega
          obtain ⟨oa, ocap, rfl⟩ := owns_len HA.out.own
          generalize hxs : encU ((l.take k).map fun x => (encI x).getD 0) = xs at HOW
          go_wp2_with (first | (go_at_call 10; refine (hc _ HP5.out.tb).mono ?_; rintro e w6 ⟨rfl, hB6⟩; have HP6 := hid_of (HP5.out.step hB6); have HO6 := hid_of (owns_below' HOW.out hB6); clear hB6) | (at_builtin; refine wpList_append_own_at _ rfl _ _ 34 rfl w.heap.size 22 i0 (.int .u32 0) 1 4 Tryd.underlying34 hi hz0 hz1 hz2 rfl (by decide) (.slice oa k ocap) k xs rfl (HO6.out.alloc _) ⟨_, 0, none⟩ 1 1 [.int .u32 (y : Int)] rfl rfl (news_u32 w6 y) (by simp [Value.oneCell']) (by unfold maxLen; omega) (by omega) (by have := HP6.out.le; simp; omega) ?_; intro v7 w7 hown' hgrow _ _))
          have hP7 : Pre w.heap.size w w7 := pre_grown HP6.out HO6.out hgrow HT0.out
          rw [← hxs] at hown'
          exact ⟨⟨k + 1, by go_num, by omega, hid_of (HA.out.next hx HD.out hP7 hown')⟩, by simp [intOf]; omega⟩
      · obtain rfl : k = l.length := by omega
        obtain ⟨oa, ocap, rfl⟩ := owns_len HA.out.own
        go_wp2_with fail
        go_ret3
        refine ⟨HA.out.pre.bel, .inr ⟨by omega, .inr ⟨HA.out.good, _, rfl, ?_⟩⟩⟩
        have := HA.out.own
        rw [List.take_length] at this
        exact this
end Go.Proofs.YtbggcofnopaloabDoor
namespace Go.Proofs.YtbggcofnopaloabDoor
open Go.RowKit Sx
def turnLAns (w : World) (l : List Nat) (e : Ending) (w' : World) : Prop := Below w.heap.size w w' ∧
  ((16384 < l.length ∧ e = .returned (.tuple #[.slice none 0 0, .int .i64 16384, .int .i64 2])) ∨ (l.length ≤ 16384 ∧
    ((∃ (k : Nat) (x : Nat), l[k]? = some x ∧ decA x = none ∧ (∀ (j : Nat) (y : Nat), j < k → l[j]? = some y → (decA y).isSome = true) ∧ e = .returned (.tuple #[.slice none 0 0, .int .i64 (k : Int), .int .i64 7])) ∨
     ((∀ (j : Nat) (y : Nat), j < l.length → l[j]? = some y → (decA y).isSome = true) ∧ ∃ v, e = .returned (.tuple #[v, .int .i64 0, .int .i64 0]) ∧ w'.ownsRow w.heap.size 25 6 v l.length (encIs (l.map fun x => (decA x).getD zeroI))))))
structure turnLAt (w : World) (l : List Nat) (k : Nat) (v : Value) (W : World) : Prop where
  own : W.ownsRow w.heap.size 25 6 v k (encIs ((l.take k).map fun x => (decA x).getD zeroI))
  pre : Pre w.heap.size w W
  good : ∀ (j : Nat) (y : Nat), j < k → l[j]? = some y → (decA y).isSome = true
theorem turnLAt.new {w : World} (hT : Tb w) (l : List Nat) (n : Nat) (hn : n ≤ 65536) : turnLAt w l 0 (.slice (some ⟨w.heap.size, 0, none⟩) 0 n) (w.alloc (.cells (madeCells (insC zeroI) (n * 6)) 25)) := by
  have hb := (Below.refl w.heap.size w).alloc (Nat.le_refl _) (.cells (madeCells (insC zeroI) (n * 6)) 25)
  refine ⟨?_, (Pre.refl hT).step hb, fun j y hj => absurd hj (by omega)⟩
  exact owns_made (by rw [size_madeCells]) (by unfold maxLen; omega)
theorem turnLAt.next {w W W' : World} {l : List Nat} {k : Nat} {v v' : Value} {x : Nat} {y : Ins} (h : turnLAt w l k v W) (hx : l[k]? = some x) (hy : decA x = some y) (hP : Pre w.heap.size w W') (ho : W'.ownsRow w.heap.size 25 6 v' (k + 1) (encIs ((l.take k).map fun x => (decA x).getD zeroI) ++ (insC y).toList)) : turnLAt w l (k + 1) v' W' := by
  refine ⟨?_, hP, fun j z hj hz => ?_⟩
  · have hk : k < l.length := (List.getElem?_eq_some_iff.1 hx).1
    have e : (l.take (k + 1)).map (fun x => (decA x).getD zeroI) = (l.take k).map (fun x => (decA x).getD zeroI) ++ [y] := by
      rw [List.take_add_one, hx, List.map_append]
      simp [hy]
    rw [e, encIs_snoc]
    exact ho
  · by_cases e : j = k
    · subst e
      rw [hx] at hz
      obtain rfl := Option.some.inj hz
      rw [hy]
      rfl
    · exact h.good j z (by omega) hz
set_option maxRecDepth 100000 in
set_option maxHeartbeats 8000000 in
theorem turnL_calls (v : Value) (l : List Nat) (w : World) (hT : Tb w) (hv : U32sR w v l) (hop : ∀ x ∈ l, x < 4294967296) (hlen : l.length ≤ 9223372036854775807) :
    Calls Tryd.prog 30 #[v, .func (.func 9) #[] #[]] w (turnLAns w l) := by
  obtain ⟨p, cap, rfl, hp⟩ := hv.form
  by_cases hbig : 16384 < l.length
  · have hb2 : (16384 : Int) < (l.length : Int) := by omega
    have HA : Hid (turnLAns w l (.returned (.tuple #[.slice none 0 0, .int .i64 16384, .int .i64 2])) w) := ⟨Below.refl _ _, .inl ⟨hbig, rfl⟩⟩
    clear hbig hp hv hT hop
    go_enter Tryd.func30, Tryd.ntmps30
    go_wp2_with fail
    go_ret3
    exact HA.out
  · have hb2 : decide ((16384 : Int) < (l.length : Int)) = false := by simp; omega
    have hmk := make_inss l.length (by omega)
    obtain ⟨i0, hi, hz0, hz1, hz2⟩ := info_parts Tryd.infoins
    have HP := hid_of hp
    have HT0 := hid_of hT.lt
    have HN := hid_of (turnLAt.new hT l l.length (by omega))
    clear hp hv hT
    go_enter Tryd.func30, Tryd.ntmps30
    go_upto_region 5 with fail
    go_loopw [4, 19] (fun ov i wr => ∃ k : Nat, i = .int .i64 (k : Int) ∧ k ≤ l.length ∧ Hid (turnLAt w l k ov wr)) (fun _ i _ => l.length - (intOf i).toNat)
    case atStart => exact ⟨0, rfl, Nat.zero_le _, HN⟩
    case round =>
      obtain ⟨k, rfl, hk, HA⟩ := hrel
      by_cases hlt : k < l.length
      · obtain ⟨b, o, rfl, hB⟩ := HP.out (by omega)
        obtain ⟨x, hx⟩ : ∃ x, l[k]? = some x := ⟨_, List.getElem?_eq_getElem hlt⟩
        have c0 := (hB.below HA.out.pre.bel hB.lt).at_ k _ hx
        have hxo := hop _ (List.mem_of_getElem? hx)
        cases hd : decA x with
        | none =>
          have HD := hid_of hd
          have hc : ∀ W, Tb W → Calls Tryd.prog 9 #[.int .u32 (x : Int)] W fun e w' => e = .returned (.tuple #[.agg (insC zeroI), .int .i64 7]) ∧ Below W.heap.size W w' := fun W h => by
            have := cdDecode_calls x W hxo h
            unfold DecE at this
            rw [hd] at this
            exact this
          clear hd hxo hB hop
          go_upto_region 8 with (first | (go_at_call 9; refine (hc _ HA.out.pre.tb).mono ?_; rintro e w6 ⟨rfl, hB6⟩; have HP6 := hid_of (HA.out.pre.step hB6); have HO6 := hid_of (owns_below' HA.out.own hB6); clear hB6) | (refine wpList_store_row rfl 25 _ _ rfl w6.heap.size (insC zeroI) rfl rfl 25 (insC zeroI) (Blk.new w6 _ _) (by kernel_rfl) rfl (insC_all _) ?_))
          have hP7 := HP6.out.step (row_new w6 (insC zeroI) (insC zeroI)).2
          have HP7 := hid_of hP7
          generalize hw : (w6.alloc (.cells (insC zeroI) 25)).setRow w6.heap.size (insC zeroI) = w7 at *
          have hw' : (w6.alloc (.cells #[.int .i64 0, .int .i64 0, .int .i64 0, .int .i64 0, .int .i64 0, .int .i64 0] 25)).setRow w6.heap.size (insC zeroI) = w7 := hw
          have hw'' : (w6.alloc (.cells #[.int .i64 0, .int .i64 0, .int .i64 0, .int .i64 0, .int .i64 0, .int .i64 0] 25)).setRow w6.heap.size #[.int .i64 0, .int .i64 0, .int .i64 0, .int .i64 0, .int .i64 0, .int .i64 0] = w7 := hw
          try first | rw [hw'] | rw [hw'']
          clear hw hw' hw''
          clear hP7
          go_wp2_with fail
          go_ret3
          exact ⟨HP7.out.bel, .inr ⟨by omega, .inl ⟨k, x, hx, HD.out, HA.out.good, rfl⟩⟩⟩
        | some y =>
          have HD := hid_of hd
          have hc : ∀ W, Tb W → Calls Tryd.prog 9 #[.int .u32 (x : Int)] W fun e w' => e = .returned (.tuple #[.agg (insC y), .int .i64 0]) ∧ Below W.heap.size W w' := fun W h => by
            have := cdDecode_calls x W hxo h
            unfold DecE at this
            rw [hd] at this
            exact this
          clear hd hxo hB hop
          have hlk : k ≤ 16384 := by omega
          obtain ⟨oa, ocap, rfl⟩ := owns_len HA.out.own
          obtain ⟨op, rd, rn, rm, imm, cond⟩ := y
          go_upto_region 8 with (first | (go_at_call 9; refine (hc _ HA.out.pre.tb).mono ?_; rintro e w6 ⟨rfl, hB6⟩; have HP6 := hid_of (HA.out.pre.step hB6); have HO6 := hid_of (owns_below' HA.out.own hB6); clear hB6) | (refine wpList_store_row rfl 25 _ _ rfl w6.heap.size (insC ⟨op, rd, rn, rm, imm, cond⟩) rfl rfl 25 (insC zeroI) (Blk.new w6 _ _) (by kernel_rfl) rfl (insC_all _) ?_))
          have hO := HP6.out.row ⟨op, rd, rn, rm, imm, cond⟩ (insC zeroI)
          have HP7 := hid_of (HP6.out.step (row_new w6 (insC ⟨op, rd, rn, rm, imm, cond⟩) (insC zeroI)).2)
          have HO7 := hid_of (owns_below' HO6.out (row_new w6 (insC ⟨op, rd, rn, rm, imm, cond⟩) (insC zeroI)).2)
          generalize hw : (w6.alloc (.cells (insC zeroI) 25)).setRow w6.heap.size (insC ⟨op, rd, rn, rm, imm, cond⟩) = w7 at *
          have hw' : (w6.alloc (.cells #[.int .i64 0, .int .i64 0, .int .i64 0, .int .i64 0, .int .i64 0, .int .i64 0] 25)).setRow w6.heap.size (insC ⟨op, rd, rn, rm, imm, cond⟩) = w7 := hw
          have hw'' : (w6.alloc (.cells #[.int .i64 0, .int .i64 0, .int .i64 0, .int .i64 0, .int .i64 0, .int .i64 0] 25)).setRow w6.heap.size #[.int .i64 op, .int .i64 rd, .int .i64 rn, .int .i64 rm, .int .i64 imm, .int .i64 cond] = w7 := hw
          try first | rw [hw'] | rw [hw'']
          clear hw hw' hw''
          obtain ⟨d0, d1, d2, d3, d4, d5⟩ := InS.of hO.a
          dsimp only at d0 d1 d2 d3 d4 d5
          clear hO
          generalize hxs : encIs ((l.take k).map fun x => (decA x).getD zeroI) = xs at HO7
          go_wp2_with (at_builtin; refine wpList_append_own_at _ rfl _ _ 33 rfl w.heap.size 25 i0 (insV zeroI) 6 48 Tryd.underlying33 hi hz0 hz1 hz2 rfl (by decide) (.slice oa k ocap) k xs rfl (HO7.out.alloc _) ⟨_, 0, none⟩ 1 1 (insC ⟨op, rd, rn, rm, imm, cond⟩).toList rfl rfl (news_ins w7 ⟨op, rd, rn, rm, imm, cond⟩) (by simp [insC, Value.oneCell']) (by unfold maxLen; omega) (by omega) (by have := HP7.out.le; simp; omega) ?_; intro v8 w8 hown' hgrow _ _)
          have hP8 : Pre w.heap.size w w8 := pre_grown HP7.out HO7.out hgrow HT0.out
          rw [← hxs] at hown'
          exact ⟨⟨k + 1, by go_num, by omega, hid_of (HA.out.next hx HD.out hP8 hown')⟩, by simp [intOf]; omega⟩
      · obtain rfl : k = l.length := by omega
        obtain ⟨oa, ocap, rfl⟩ := owns_len HA.out.own
        go_wp2_with fail
        go_ret3
        refine ⟨HA.out.pre.bel, .inr ⟨by omega, .inr ⟨HA.out.good, _, rfl, ?_⟩⟩⟩
        have := HA.out.own
        rw [List.take_length] at this
        exact this
end Go.Proofs.YtbggcofnopaloabDoor
namespace Go.Proofs.YtbggcofnopaloabDoor
open Go.RowKit Sx
theorem turnW_big (v : Value) (l : List Ins) (w : World) (hT : Tb w) (hv : InssR w v l) (hop : ∀ i ∈ l, -9223372036854775808 ≤ i.op ∧ i.op ≤ 9223372036854775807) (hlen : l.length ≤ 9223372036854775807) (hb : 16384 < l.length) : Calls Tryd.prog 24 #[v, .func (.func 10) #[] #[]] w fun e w' => e = .returned (.tuple #[.slice none 0 0, .int .i64 16384, .int .i64 2]) ∧ Below w.heap.size w w' := by
  refine (turnW_calls v l w hT hv hop hlen).mono ?_
  rintro e w' ⟨hB, h⟩
  rcases h with ⟨-, he⟩ | ⟨h1, -⟩
  · exact ⟨he, hB⟩
  · omega
set_option maxRecDepth 100000 in
set_option maxHeartbeats 4000000 in
theorem words_big (v : Value) (l : List Ins) (w : World) (hT : Tb w) (hv : InssR w v l) (hop : ∀ i ∈ l, -9223372036854775808 ≤ i.op ∧ i.op ≤ 9223372036854775807) (hlen : l.length ≤ 9223372036854775807) (hb : 16384 < l.length) : Calls Tryd.prog 12 #[v] w fun e w' => e = .returned (.tuple #[.slice none 0 0, .int .i64 16384, .int .i64 2]) ∧ Below w.heap.size w w' := by
  have hc := turnW_big v l w hT hv hop hlen hb
  clear hT hv hop hb
  go_enter Tryd.func12, Tryd.ntmps12
  go_wp2_with (go_at_call 24; refine hc.mono ?_; rintro e w3 ⟨rfl, hB3⟩)
  go_ret3
  exact ⟨rfl, hB3⟩
theorem turnW_ok (v : Value) (l : List Ins) (w : World) (hT : Tb w) (hv : InssR w v l) (hop : ∀ i ∈ l, -9223372036854775808 ≤ i.op ∧ i.op ≤ 9223372036854775807) (hlen : l.length ≤ 9223372036854775807) (hs : l.length ≤ 16384) (hg : ∀ (j : Nat) (y : Ins), j < l.length → l[j]? = some y → (encI y).isSome = true) : Calls Tryd.prog 24 #[v, .func (.func 10) #[] #[]] w fun e w' => (∃ v', e = .returned (.tuple #[v', .int .i64 0, .int .i64 0]) ∧ w'.ownsRow w.heap.size 22 1 v' l.length (encU (l.map fun x => (encI x).getD 0))) ∧ Below w.heap.size w w' := by
  refine (turnW_calls v l w hT hv hop hlen).mono ?_
  rintro e w' ⟨hB, h⟩
  rcases h with ⟨h1, -⟩ | ⟨-, ⟨k2, x2, h2, h3, -, -⟩ | ⟨-, h2⟩⟩
  · omega
  · have := hg k2 x2 (List.getElem?_eq_some_iff.1 h2).1 h2
    rw [h3] at this
    cases this
  · obtain ⟨v', he, ho⟩ := h2
    exact ⟨⟨v', he, ho⟩, hB⟩
set_option maxRecDepth 100000 in
set_option maxHeartbeats 4000000 in
theorem words_ok (v : Value) (l : List Ins) (w : World) (hT : Tb w) (hv : InssR w v l) (hop : ∀ i ∈ l, -9223372036854775808 ≤ i.op ∧ i.op ≤ 9223372036854775807) (hlen : l.length ≤ 9223372036854775807) (hs : l.length ≤ 16384) (hg : ∀ (j : Nat) (y : Ins), j < l.length → l[j]? = some y → (encI y).isSome = true) : Calls Tryd.prog 12 #[v] w fun e w' => (∃ v', e = .returned (.tuple #[v', .int .i64 0, .int .i64 0]) ∧ w'.ownsRow w.heap.size 22 1 v' l.length (encU (l.map fun x => (encI x).getD 0))) ∧ Below w.heap.size w w' := by
  have hc := turnW_ok v l w hT hv hop hlen hs hg
  clear hT hv hop hs hg
  go_enter Tryd.func12, Tryd.ntmps12
  go_wp2_with (go_at_call 24; refine hc.mono ?_; rintro e w3 ⟨⟨v3, rfl, ho3⟩, hB3⟩)
  go_ret3
  exact ⟨⟨v3, rfl, ho3⟩, hB3⟩
theorem turnL_big (v : Value) (l : List Nat) (w : World) (hT : Tb w) (hv : U32sR w v l) (hop : ∀ x ∈ l, x < 4294967296) (hlen : l.length ≤ 9223372036854775807) (hb : 16384 < l.length) : Calls Tryd.prog 30 #[v, .func (.func 9) #[] #[]] w fun e w' => e = .returned (.tuple #[.slice none 0 0, .int .i64 16384, .int .i64 2]) ∧ Below w.heap.size w w' := by
  refine (turnL_calls v l w hT hv hop hlen).mono ?_
  rintro e w' ⟨hB, h⟩
  rcases h with ⟨-, he⟩ | ⟨h1, -⟩
  · exact ⟨he, hB⟩
  · omega
set_option maxRecDepth 100000 in
set_option maxHeartbeats 4000000 in
theorem list_big (v : Value) (l : List Nat) (w : World) (hT : Tb w) (hv : U32sR w v l) (hop : ∀ x ∈ l, x < 4294967296) (hlen : l.length ≤ 9223372036854775807) (hb : 16384 < l.length) : Calls Tryd.prog 16 #[v] w fun e w' => e = .returned (.tuple #[.slice none 0 0, .int .i64 16384, .int .i64 2]) ∧ Below w.heap.size w w' := by
  have hc := turnL_big v l w hT hv hop hlen hb
  clear hT hv hop hb
  go_enter Tryd.func16, Tryd.ntmps16
  go_wp2_with (go_at_call 30; refine hc.mono ?_; rintro e w3 ⟨rfl, hB3⟩)
  go_ret3
  exact ⟨rfl, hB3⟩
theorem turnL_ok (v : Value) (l : List Nat) (w : World) (hT : Tb w) (hv : U32sR w v l) (hop : ∀ x ∈ l, x < 4294967296) (hlen : l.length ≤ 9223372036854775807) (hs : l.length ≤ 16384) (hg : ∀ (j : Nat) (y : Nat), j < l.length → l[j]? = some y → (decA y).isSome = true) : Calls Tryd.prog 30 #[v, .func (.func 9) #[] #[]] w fun e w' => (∃ v', e = .returned (.tuple #[v', .int .i64 0, .int .i64 0]) ∧ w'.ownsRow w.heap.size 25 6 v' l.length (encIs (l.map fun x => (decA x).getD zeroI))) ∧ Below w.heap.size w w' := by
  refine (turnL_calls v l w hT hv hop hlen).mono ?_
  rintro e w' ⟨hB, h⟩
  rcases h with ⟨h1, -⟩ | ⟨-, ⟨k2, x2, h2, h3, -, -⟩ | ⟨-, h2⟩⟩
  · omega
  · have := hg k2 x2 (List.getElem?_eq_some_iff.1 h2).1 h2
    rw [h3] at this
    cases this
  · obtain ⟨v', he, ho⟩ := h2
    exact ⟨⟨v', he, ho⟩, hB⟩
set_option maxRecDepth 100000 in
set_option maxHeartbeats 4000000 in
theorem list_ok (v : Value) (l : List Nat) (w : World) (hT : Tb w) (hv : U32sR w v l) (hop : ∀ x ∈ l, x < 4294967296) (hlen : l.length ≤ 9223372036854775807) (hs : l.length ≤ 16384) (hg : ∀ (j : Nat) (y : Nat), j < l.length → l[j]? = some y → (decA y).isSome = true) : Calls Tryd.prog 16 #[v] w fun e w' => (∃ v', e = .returned (.tuple #[v', .int .i64 0, .int .i64 0]) ∧ w'.ownsRow w.heap.size 25 6 v' l.length (encIs (l.map fun x => (decA x).getD zeroI))) ∧ Below w.heap.size w w' := by
  have hc := turnL_ok v l w hT hv hop hlen hs hg
  clear hT hv hop hs hg
  go_enter Tryd.func16, Tryd.ntmps16
  go_wp2_with (go_at_call 30; refine hc.mono ?_; rintro e w3 ⟨⟨v3, rfl, ho3⟩, hB3⟩)
  go_ret3
  exact ⟨⟨v3, rfl, ho3⟩, hB3⟩
end Go.Proofs.YtbggcofnopaloabDoor
namespace Go.Proofs.YtbggcofnopaloabDoor
open Go.RowKit Sx
theorem Pre.of_below {N : Nat} {w0 w w' : World} (h : Pre N w0 w) (hb : Below w.heap.size w w') : Pre N w0 w' := h.step hb
structure Cmp (N b o m : Nat) (w0 : World) (i : Ins) (W : World) : Prop where
  a : InsAt W b o i
  lt : b < W.heap.size
  c : Blk W m 38 (insC i)
  pre : Pre N w0 W
theorem Cmp.step {N b o m : Nat} {w0 W W' : World} {i : Ins} (h : Cmp N b o m w0 i W) (hb : Below W.heap.size W W') : Cmp N b o m w0 i W' := ⟨h.a.below hb h.lt, Nat.lt_of_lt_of_le h.lt hb.size, h.c.of_below hb, h.pre.step hb⟩
theorem Cmp.drew {N b o m : Nat} {w0 W : World} {i : Ins} (h : Cmp N b o m w0 i W) : Cmp N b o m w0 i W.drew := h.step (Below.refl _ _).drew
theorem Cmp.cells {N b o m : Nat} {w0 W : World} {op rd rn rm imm cond : Int} (h : Cmp N b o m w0 ⟨op, rd, rn, rm, imm, cond⟩ W) : W.cell? ⟨b, o, none⟩ = some (.int .i64 op) ∧ W.cell? ⟨b, o + 1, none⟩ = some (.int .i64 rd) ∧ W.cell? ⟨b, o + 2, none⟩ = some (.int .i64 rn) ∧ W.cell? ⟨b, o + 3, none⟩ = some (.int .i64 rm) ∧ W.cell? ⟨b, o + 4, none⟩ = some (.int .i64 imm) ∧ W.cell? ⟨b, o + 5, none⟩ = some (.int .i64 cond) ∧ W.cell? ⟨m, 0, none⟩ = some (.int .i64 op) ∧ W.cell? ⟨m, 1, none⟩ = some (.int .i64 rd) ∧ W.cell? ⟨m, 2, none⟩ = some (.int .i64 rn) ∧ W.cell? ⟨m, 3, none⟩ = some (.int .i64 rm) ∧ W.cell? ⟨m, 4, none⟩ = some (.int .i64 imm) ∧ W.cell? ⟨m, 5, none⟩ = some (.int .i64 cond) := by
  obtain ⟨a, b, c, d, e, f⟩ := InS.ofT h.c
  exact ⟨h.a.p0, h.a.p1, h.a.p2, h.a.p3, h.a.p4, h.a.p5, a, b, c, d, e, f⟩
structure Cmw (N b o c p : Nat) (w0 : World) (x : Nat) (i : Ins) (W : World) : Prop where
  x : W.cell? ⟨b, o, none⟩ = some (.int .u32 (x : Int))
  lt : b < W.heap.size
  a : InsAt W c p i
  lt2 : c < W.heap.size
  pre : Pre N w0 W
theorem Cmw.step {N b o c p : Nat} {w0 W W' : World} {x : Nat} {i : Ins} (h : Cmw N b o c p w0 x i W) (hb : Below W.heap.size W W') : Cmw N b o c p w0 x i W' := ⟨(hb.cell (p := ⟨b, o, none⟩) h.lt).trans h.x, Nat.lt_of_lt_of_le h.lt hb.size, h.a.below hb h.lt2, Nat.lt_of_lt_of_le h.lt2 hb.size, h.pre.step hb⟩
theorem Cmw.drew {N b o c p : Nat} {w0 W : World} {x : Nat} {i : Ins} (h : Cmw N b o c p w0 x i W) : Cmw N b o c p w0 x i W.drew := h.step (Below.refl _ _).drew
theorem Cmw.cells {N b o c p : Nat} {w0 W : World} {x : Nat} {op rd rn rm imm cond : Int} (h : Cmw N b o c p w0 x ⟨op, rd, rn, rm, imm, cond⟩ W) : W.cell? ⟨b, o, none⟩ = some (.int .u32 (x : Int)) ∧ W.cell? ⟨c, p, none⟩ = some (.int .i64 op) ∧ W.cell? ⟨c, p + 1, none⟩ = some (.int .i64 rd) ∧ W.cell? ⟨c, p + 2, none⟩ = some (.int .i64 rn) ∧ W.cell? ⟨c, p + 3, none⟩ = some (.int .i64 rm) ∧ W.cell? ⟨c, p + 4, none⟩ = some (.int .i64 imm) ∧ W.cell? ⟨c, p + 5, none⟩ = some (.int .i64 cond) := ⟨h.x, h.a.p0, h.a.p1, h.a.p2, h.a.p3, h.a.p4, h.a.p5⟩
theorem Pre.two {w w4 W : World} (h : Pre w.heap.size w w4) (k : Pre w4.heap.size w4 W) : Pre w.heap.size w W := ⟨k.tb, h.bel.trans (k.bel.mono h.le), Nat.le_trans h.le k.le⟩
theorem U32sR.under {W W' : World} {v : Value} {l : List Nat} (h : U32sR W v l) (hb : Below W.heap.size W W') : U32sR W' v l := h.step hb
theorem map_at {l : List Ins} (hg : ∀ (j : Nat) (y : Ins), j < l.length → l[j]? = some y → (encI y).isSome = true) (i : Ins) (hi : i ∈ l) : ∃ x, encI i = some x := by
  obtain ⟨j, hj⟩ := List.getElem?_of_mem hi
  exact Option.isSome_iff_exists.1 (hg j i (List.getElem?_eq_some_iff.1 hj).1 hj)
theorem map_lt {l : List Ins} (hg : ∀ (j : Nat) (y : Ins), j < l.length → l[j]? = some y → (encI y).isSome = true) : ∀ x ∈ l.map (fun x => (encI x).getD 0), x < 4294967296 := by
  intro x hx
  obtain ⟨i, hi, rfl⟩ := List.mem_map.1 hx
  obtain ⟨y, hy⟩ := map_at hg i hi
  rw [hy]
  exact enc_lt hy
theorem map_dec {l : List Ins} (hg : ∀ (j : Nat) (y : Ins), j < l.length → l[j]? = some y → (encI y).isSome = true) : ∀ (j : Nat) (x : Nat), j < (l.map (fun x => (encI x).getD 0)).length → (l.map (fun x => (encI x).getD 0))[j]? = some x → (decA x).isSome = true := by
  intro j x _ hx
  rw [List.getElem?_map, Option.map_eq_some_iff] at hx
  obtain ⟨i, hi, rfl⟩ := hx
  obtain ⟨y, hy⟩ := map_at hg i (List.mem_of_getElem? hi)
  rw [hy]
  show (decA y).isSome = true
  rw [(enc_dec hy).1]
  rfl
theorem map_back {l : List Ins} (hg : ∀ (j : Nat) (y : Ins), j < l.length → l[j]? = some y → (encI y).isSome = true) : (l.map (fun x => (encI x).getD 0)).map (fun x => (decA x).getD zeroI) = l := by
  rw [List.map_map]
  refine (List.map_congr_left (g := id) (fun i hi => ?_)).trans (List.map_id l)
  obtain ⟨y, hy⟩ := map_at hg i hi
  show (decA ((encI i).getD 0)).getD zeroI = i
  rw [hy]
  show (decA y).getD zeroI = i
  rw [(enc_dec hy).1]
  rfl
end Go.Proofs.YtbggcofnopaloabDoor
namespace Go.Proofs.YtbggcofnopaloabDoor
open Go.RowKit Sx
def nopI : Ins := ⟨32, 0, 0, 0, 0, 0⟩
theorem nop_some : (encI nopI).isSome = true := by decide +kernel
theorem owns_grown {W W' : World} {base : Nat} {e : TypeId} {size : Nat} {v : Value} {n : Nat} {xs : List Value} {ob : Option Nat} (h : W.ownsRow base e size v n xs) (hg : W.grownBy W' ob) (hne : ∀ q, ob = some q → q < base) : W'.ownsRow base e size v n xs := by
  refine ⟨h.1, ?_⟩
  rcases h.2 with h2 | ⟨g, cap, cur, h3, h4, h5, h6⟩
  · exact .inl h2
  · exact .inr ⟨g, cap, cur, h3, h4, (hg.block g (Array.getElem?_eq_some_iff.1 h5).1 (fun e => by have := hne g e.symm; omega)).trans h5, h6⟩
set_option maxRecDepth 100000 in
set_option maxHeartbeats 8000000 in
theorem CodeLimit_calls (w : World) (hT : Tb w) :
    Calls Tryd.prog 6 #[] w fun e w' => e = .returned (.bool true) ∧ Below w.heap.size w w' := by
  have hc0 := l14awake_calls
  obtain ⟨i0, hi, hz0, hz1, hz2⟩ := info_parts Tryd.infoins
  obtain ⟨j0, hj, hy0, hy1, hy2⟩ := info_parts Tryd.infou32
  have HT0 := hid_of hT.lt
  have HP0 := hid_of (Pre.refl hT)
  clear hT
  go_enter Tryd.func6, Tryd.ntmps6
  go_upto_region 3 with fail
  go_loopw [1, 2] (fun lv i wr => ∃ k : Nat, k ≤ 16384 ∧ i = .int .i64 k ∧ Hid (wr.ownsRow w.heap.size 25 6 lv k (encIs (List.replicate k nopI))) ∧ Hid (Pre w.heap.size w wr)) (fun _ i _ => 16384 - (intOf i).toNat)
  case atStart => exact ⟨0, by omega, rfl, World.ownsRow_nil _ _ _ _, HP0⟩
  case round =>
    obtain ⟨k, hk, rfl, HO, HP⟩ := hrel
    obtain ⟨oa, ocap, rfl⟩ := owns_len HO.out
    by_cases hlt : k < 16384
    · generalize hxs : encIs (List.replicate k nopI) = xs at *
      go_wp2_with (at_builtin; refine wpList_append_own_at _ rfl _ _ 33 rfl w.heap.size 25 i0 (insV zeroI) 6 48 Tryd.underlying33 hi hz0 hz1 hz2 rfl (by decide) (.slice oa k ocap) k xs rfl (HO.out.alloc _) ⟨_, 0, none⟩ 1 1 (insC nopI).toList rfl rfl (news_ins wr nopI) (by simp [insC, Value.oneCell']) (by unfold maxLen; omega) (by omega) (by have := HP.out.le; simp; omega) ?_; intro v8 w8 hown' hgrow _ _)
      have hP8 := pre_grown HP.out HO.out hgrow HT0.out
      rw [← hxs, ← encIs_snoc, ← List.replicate_succ'] at hown'
      exact ⟨⟨k + 1, by omega, by go_num, hid_of hown', hid_of hP8⟩, by simp [intOf]; omega⟩
    · obtain rfl : k = 16384 := by omega
      have hL : (List.replicate 16384 nopI).length = 16384 := List.length_replicate
      have hA : ∀ i ∈ List.replicate 16384 nopI, i = nopI := fun i hi => List.eq_of_mem_replicate hi
      generalize List.replicate 16384 nopI = L at *
      have hg : ∀ (j : Nat) (y : Ins), j < L.length → L[j]? = some y → (encI y).isSome = true := fun j y _ hy => by rw [hA y (List.mem_of_getElem? hy)]; exact nop_some
      have hop : ∀ i ∈ L, -9223372036854775808 ≤ i.op ∧ i.op ≤ 9223372036854775807 := fun i hi => by rw [hA i hi]; decide
      have hop2 : ∀ i ∈ L ++ [nopI], -9223372036854775808 ≤ i.op ∧ i.op ≤ 9223372036854775807 := fun i hi => by
        rcases List.mem_append.1 hi with h | h
        · exact hop i h
        · rw [List.mem_singleton.1 h]; decide
      have hM : (L.map fun x => (encI x).getD 0).length = 16384 := by rw [List.length_map, hL]
      have hcW : ∀ v W, Tb W → InssR W v L → Calls Tryd.prog 12 #[v] W fun e w' => (∃ v', e = .returned (.tuple #[v', .int .i64 0, .int .i64 0]) ∧ w'.ownsRow W.heap.size 22 1 v' 16384 (encU (L.map fun x => (encI x).getD 0))) ∧ Below W.heap.size W w' := fun v W h1 h2 => by
        have := words_ok v L W h1 h2 hop (by omega) (by omega) hg
        rw [hL] at this
        exact this
      have hcL : ∀ v W, Tb W → U32sR W v (L.map fun x => (encI x).getD 0) → Calls Tryd.prog 16 #[v] W fun e w' => (∃ v', e = .returned (.tuple #[v', .int .i64 0, .int .i64 0]) ∧ w'.ownsRow W.heap.size 25 6 v' 16384 (encIs L)) ∧ Below W.heap.size W w' := fun v W h1 h2 => by
        have := list_ok v (L.map fun x => (encI x).getD 0) W h1 h2 (map_lt hg) (by omega) (by omega) (map_dec hg)
        rw [map_back hg, hM] at this
        exact this
      have hcWB : ∀ v W, Tb W → InssR W v (L ++ [nopI]) → Calls Tryd.prog 12 #[v] W fun e w' => e = .returned (.tuple #[.slice none 0 0, .int .i64 16384, .int .i64 2]) ∧ Below W.heap.size W w' := fun v W h1 h2 => words_big v (L ++ [nopI]) W h1 h2 hop2 (by rw [List.length_append, hL]; decide) (by rw [List.length_append, hL]; decide)
      have hlt2 := map_lt hg
      generalize L.map (fun x => (encI x).getD 0) = M at *
      have hcLB : ∀ v W, Tb W → U32sR W v (M ++ [0]) → Calls Tryd.prog 16 #[v] W fun e w' => e = .returned (.tuple #[.slice none 0 0, .int .i64 16384, .int .i64 2]) ∧ Below W.heap.size W w' := fun v W h1 h2 => list_big v (M ++ [0]) W h1 h2 (fun x hx => by
        rcases List.mem_append.1 hx with h | h
        · exact hlt2 x h
        · rw [List.mem_singleton.1 h]; decide) (by rw [List.length_append, hM]; decide) (by rw [List.length_append, hM]; decide)
      have HLL := hid_of hL
      have HMM := hid_of hM
      have HQ : Hid (∀ q, (Value.slice oa 16384 ocap).ownBlock = some q → q < wr.heap.size) := fun q e => (HO.out.lt q e).2
      have HIR := hid_of (owns_ins (l := L) (v := .slice oa 16384 ocap) (by rw [hL]; exact HO.out))
      clear hlt2 hg hop hop2 hA hL hM
      generalize hxs : encIs L = xs at *
      generalize hys : encU M = ys at *
      go_upto_region 7 with (go_at_call 12; refine (hcW _ _ HP.out.tb HIR.out).mono ?_; rintro e w4 ⟨⟨v4, rfl, ho4⟩, hB4⟩; obtain ⟨oa4, cap4, rfl⟩ := owns_len ho4; have HP4 := hid_of (HP.out.step hB4); have HR4 := hid_of hB4.size; have HW4 := hid_of ho4; have HL4 := hid_of (owns_below' HO.out hB4); clear ho4 hB4)
      have HUR := hid_of (owns_u32 (l := M) (v := .slice oa4 16384 cap4) (by rw [HMM.out, hys]; exact HW4.out))
      clear hcW
      go_upto_region 8 with (go_at_call 16; refine (hcL _ _ HP4.out.tb HUR.out).mono ?_; rintro e w5 ⟨⟨v5, rfl, ho5⟩, hB5⟩; obtain ⟨oa5, cap5, rfl⟩ := owns_len ho5; have HP5 := hid_of (HP4.out.step hB5); have HR5 := hid_of (Nat.le_trans HR4.out hB5.size); have HW5 := hid_of (owns_below' HW4.out hB5); have HL5 := hid_of (owns_below' HL4.out hB5); clear ho5 hB5)
      clear hcL HUR
      go_upto_region 9 with (at_builtin; refine wpList_append_own_at _ rfl _ _ 33 rfl w.heap.size 25 i0 (insV zeroI) 6 48 Tryd.underlying33 hi hz0 hz1 hz2 rfl (by decide) (.slice oa 16384 ocap) 16384 xs rfl (HL5.out.alloc _) ⟨_, 0, none⟩ 1 1 (insC nopI).toList rfl rfl (news_ins w5 nopI) (by simp [insC, Value.oneCell']) (by unfold maxLen; omega) (by omega) (by have := HP5.out.le; simp; omega) ?_; intro v6 w6 hown' hgrow _ _)
      have HP6 := hid_of (pre_grown HP5.out HL5.out hgrow HT0.out)
      have HR6 : Hid (wr.heap.size ≤ w6.heap.size) := by have h1 := hgrow.size; have h2 := HR5.out; rw [World.size_alloc] at h1; rw [Hid]; omega
      have HW6 := hid_of (owns_grown (HW5.out.alloc _) hgrow HQ.out)
      obtain ⟨oa6, cap6, rfl⟩ := owns_len hown'
      have HIR6 := hid_of (owns_ins (l := L ++ [nopI]) (v := .slice oa6 (16384 + 1) cap6) (by rw [encIs_snoc, hxs, List.length_append, HLL.out]; exact hown'))
      clear hown' hgrow HQ HL5 HL4 HIR HO
      go_upto_region 10 with (go_at_call 12; refine (hcWB _ _ HP6.out.tb HIR6.out).mono ?_; rintro e w7 ⟨rfl, hB7⟩; have HP7 := hid_of (HP6.out.step hB7); have HWR := hid_of (Nat.le_trans HR6.out hB7.size); have HW7 := hid_of (owns_below' HW6.out hB7); clear hB7)
      clear hcWB
      go_upto_region 11 with (at_builtin; refine wpList_append_own_at _ rfl _ _ 34 rfl wr.heap.size 22 j0 (.int .u32 0) 1 4 Tryd.underlying34 hj hy0 hy1 hy2 rfl (by decide) (.slice oa4 16384 cap4) 16384 ys rfl (HW7.out.alloc _) ⟨_, 0, none⟩ 1 1 [.int .u32 0] rfl rfl (news_u32 w7 0) (by simp [Value.oneCell']) (by unfold maxLen; omega) (by omega) (by have := HWR.out; simp; omega) ?_; intro v8 w8 hown' hgrow _ _)
      have HP8 := hid_of (pre_grown HP7.out (owns_lo HW7.out HP.out.le) hgrow HT0.out)
      obtain ⟨oa8, cap8, rfl⟩ := owns_len hown'
      have HUR8 := hid_of (owns_u32 (l := M ++ [0]) (v := .slice oa8 (16384 + 1) cap8) (by rw [encU_snoc, hys, List.length_append, HMM.out]; exact hown'))
      clear hown' hgrow
      go_wp2_with (first | (go_at_call 16; refine (hcLB _ _ HP8.out.tb HUR8.out).mono ?_; rintro e w9 ⟨rfl, hB9⟩; have HP9 := hid_of (HP8.out.step hB9); clear hB9) | (go_at_call 8; refine (hc0 _ HP9.out.tb).mono ?_; rintro e w10 ⟨rfl, hB10⟩; have HP10 := hid_of (HP9.out.step hB10); clear hB10))
      go_ret
      exact ⟨rfl, HP10.out.bel⟩
end Go.Proofs.YtbggcofnopaloabDoor
