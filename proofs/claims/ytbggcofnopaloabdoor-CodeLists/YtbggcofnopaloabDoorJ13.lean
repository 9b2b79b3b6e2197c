/- Lists of instructions and of words in memory. -/
import Derived.Test.YtbggcofnopaloabDoorJ12
import Derived.Maps.AppendAt
import Derived.OwnWalk
namespace Go.Proofs.YtbggcofnopaloabDoor
open Go.RowKit Sx
structure InsAt (W : World) (b o : Nat) (i : Ins) : Prop where
  p0 : W.cell? ⟨b, o, none⟩ = some (.int .i64 i.op)
  p1 : W.cell? ⟨b, o + 1, none⟩ = some (.int .i64 i.rd)
  p2 : W.cell? ⟨b, o + 2, none⟩ = some (.int .i64 i.rn)
  p3 : W.cell? ⟨b, o + 3, none⟩ = some (.int .i64 i.rm)
  p4 : W.cell? ⟨b, o + 4, none⟩ = some (.int .i64 i.imm)
  p5 : W.cell? ⟨b, o + 5, none⟩ = some (.int .i64 i.cond)
theorem InsAt.below {W W' : World} {b o n : Nat} {i : Ins} (h : InsAt W b o i) (hb : Below n W W') (hn : b < n) : InsAt W' b o i :=
  ⟨(hb.cell (p := ⟨b, o, none⟩) hn).trans h.p0, (hb.cell (p := ⟨b, o + 1, none⟩) hn).trans h.p1, (hb.cell (p := ⟨b, o + 2, none⟩) hn).trans h.p2, (hb.cell (p := ⟨b, o + 3, none⟩) hn).trans h.p3, (hb.cell (p := ⟨b, o + 4, none⟩) hn).trans h.p4, (hb.cell (p := ⟨b, o + 5, none⟩) hn).trans h.p5⟩
structure InsB (W : World) (b o : Nat) (l : List Ins) : Prop where
  lt : b < W.heap.size
  at_ : ∀ (j : Nat) (i : Ins), l[j]? = some i → InsAt W b (o + j * 6) i
def InssR (W : World) (v : Value) (l : List Ins) : Prop := (∃ a cap, v = .slice a 0 cap ∧ l = []) ∨ ∃ b o cap, v = .slice (some ⟨b, o, none⟩) l.length cap ∧ InsB W b o l
structure U32B (W : World) (b o : Nat) (l : List Nat) : Prop where
  lt : b < W.heap.size
  at_ : ∀ (j x : Nat), l[j]? = some x → W.cell? ⟨b, o + j, none⟩ = some (.int .u32 (x : Int))
def U32sR (W : World) (v : Value) (l : List Nat) : Prop := (∃ a cap, v = .slice a 0 cap ∧ l = []) ∨ ∃ b o cap, v = .slice (some ⟨b, o, none⟩) l.length cap ∧ U32B W b o l
theorem InsB.below {W W' : World} {b o n : Nat} {l : List Ins} (h : InsB W b o l) (hb : Below n W W') (hn : b < n) : InsB W' b o l :=
  ⟨Nat.lt_of_lt_of_le h.lt hb.size, fun j i hj => (h.at_ j i hj).below hb hn⟩
theorem U32B.below {W W' : World} {b o n : Nat} {l : List Nat} (h : U32B W b o l) (hb : Below n W W') (hn : b < n) : U32B W' b o l :=
  ⟨Nat.lt_of_lt_of_le h.lt hb.size, fun j x hj => (hb.cell (p := ⟨b, o + j, none⟩) hn).trans (h.at_ j x hj)⟩
theorem InsB.step {W W' : World} {b o : Nat} {l : List Ins} (h : InsB W b o l) (hb : Below W.heap.size W W') : InsB W' b o l := h.below hb h.lt
theorem U32B.step {W W' : World} {b o : Nat} {l : List Nat} (h : U32B W b o l) (hb : Below W.heap.size W W') : U32B W' b o l := h.below hb h.lt
theorem InssR.step {W W' : World} {v : Value} {l : List Ins} (h : InssR W v l) (hb : Below W.heap.size W W') : InssR W' v l := by
  rcases h with h | ⟨b, o, cap, e, h⟩
  · exact .inl h
  · exact .inr ⟨b, o, cap, e, h.step hb⟩
theorem U32sR.step {W W' : World} {v : Value} {l : List Nat} (h : U32sR W v l) (hb : Below W.heap.size W W') : U32sR W' v l := by
  rcases h with h | ⟨b, o, cap, e, h⟩
  · exact .inl h
  · exact .inr ⟨b, o, cap, e, h.step hb⟩
theorem InssR.form {W : World} {v : Value} {l : List Ins} (h : InssR W v l) : ∃ p cap, v = .slice p l.length cap ∧ (0 < l.length → ∃ b o, p = some ⟨b, o, none⟩ ∧ InsB W b o l) := by
  rcases h with ⟨a, cap, rfl, rfl⟩ | ⟨b, o, cap, rfl, h⟩
  · exact ⟨a, cap, rfl, fun h => by cases h⟩
  · exact ⟨_, cap, rfl, fun _ => ⟨b, o, rfl, h⟩⟩
theorem U32sR.form {W : World} {v : Value} {l : List Nat} (h : U32sR W v l) : ∃ p cap, v = .slice p l.length cap ∧ (0 < l.length → ∃ b o, p = some ⟨b, o, none⟩ ∧ U32B W b o l) := by
  rcases h with ⟨a, cap, rfl, rfl⟩ | ⟨b, o, cap, rfl, h⟩
  · exact ⟨a, cap, rfl, fun h => by cases h⟩
  · exact ⟨_, cap, rfl, fun _ => ⟨b, o, rfl, h⟩⟩
def encU (l : List Nat) : List Value := l.map fun x => .int .u32 ((x : Nat) : Int)
def encIs (l : List Ins) : List Value := l.flatMap fun i => (insC i).toList
theorem encU_snoc (l : List Nat) (x : Nat) : encU (l ++ [x]) = encU l ++ [.int .u32 ((x : Nat) : Int)] := by simp [encU]
theorem encIs_snoc (l : List Ins) (i : Ins) : encIs (l ++ [i]) = encIs l ++ (insC i).toList := by simp [encIs]
theorem encIs_at : ∀ (l : List Ins) (j : Nat) (i : Ins), l[j]? = some i → ∀ f v, (insC i).toList[f]? = some v → (encIs l)[j * 6 + f]? = some v
  | [], j, i, h, _, _, _ => by cases h
  | i0 :: l, 0, i, h, f, v, hv => by
    obtain rfl : i0 = i := by simpa using h
    have e : encIs (i0 :: l) = (insC i0).toList ++ encIs l := by simp [encIs]
    have hf : f < (insC i0).toList.length := (List.getElem?_eq_some_iff.1 hv).1
    rw [e, Nat.zero_mul, Nat.zero_add, List.getElem?_append_left hf]
    exact hv
  | i0 :: l, j + 1, i, h, f, v, hv => by
    have e : encIs (i0 :: l) = (insC i0).toList ++ encIs l := by simp [encIs]
    have ih := encIs_at l j i (by simpa using h) f v hv
    have hl : (insC i0).toList.length = 6 := rfl
    rw [e, List.getElem?_append_right (by rw [hl]; omega), hl]
    rw [show (j + 1) * 6 + f - 6 = j * 6 + f by omega]
    exact ih
theorem owns_ins {W : World} {base : Nat} {v : Value} {l : List Ins} (h : W.ownsRow base 25 6 v l.length (encIs l)) : InssR W v l := by
  rcases h.2 with ⟨rfl, e⟩ | ⟨g, cap, cur, rfl, hg, hb, h1, h2, h3, h4⟩
  · exact .inl ⟨none, 0, by rfl, List.eq_nil_of_length_eq_zero e⟩
  · refine .inr ⟨g, 0, cap, rfl, (Array.getElem?_eq_some_iff.1 hb).1, fun j i hj => ?_⟩
    have hj2 : j < l.length := (List.getElem?_eq_some_iff.1 hj).1
    have key : ∀ f u, f < 6 → (insC i).toList[f]? = some u → W.cell? ⟨g, 0 + j * 6 + f, none⟩ = some u := fun f u hf hu => by
      have h5 := encIs_at l j i hj f u hu
      rw [← h4, List.getElem?_take, if_pos (by omega)] at h5
      rw [Nat.zero_add]
      exact Blk.cell hb (by simpa using h5)
    exact ⟨key 0 _ (by omega) rfl, key 1 _ (by omega) rfl, key 2 _ (by omega) rfl, key 3 _ (by omega) rfl, key 4 _ (by omega) rfl, key 5 _ (by omega) rfl⟩
theorem Tryd.infoins : (Tryd.prog.info? 25).map (fun i => (i.zero, i.size, i.bytes)) = some (some (insV zeroI), 6, 48) := by kernel_rfl
theorem make_inss (n : Nat) (h : n ≤ 65536) (w : World) : (Instr.makeSlice 33 (.int .i64 0) (.int .i64 n)).run Tryd.prog w = .ok (.slice (some ⟨w.heap.size, 0, none⟩) 0 n) (w.alloc (.cells (madeCells (insC zeroI) (n * 6)) 25)) := by
  obtain ⟨i, hx, hz, hs, hb⟩ := info_parts Tryd.infoins
  have := run_make (P := Tryd.prog) w 33 25 i _ Tryd.underlying33 hx hz .i64 .i64 0 n (by omega) (by omega) (by rw [hb]; omega) (by omega)
  rw [this, hs, Int.toNat_natCast]
  rfl
theorem owns_made {w : World} {e : TypeId} {size n : Nat} {cur : Array Value} (hc : cur.size = n * size) (hn : n ≤ maxLen) : (w.alloc (.cells cur e)).ownsRow w.heap.size e size (.slice (some ⟨w.heap.size, 0, none⟩) 0 n) 0 [] :=
  ⟨by simp, .inr ⟨w.heap.size, n, cur, rfl, Nat.le_refl _, Blk.new w e cur, Nat.zero_le _, hn, hc, by simp⟩⟩
theorem owns_below' {w w' : World} {base : Nat} {e : TypeId} {size : Nat} {v : Value} {n : Nat} {xs : List Value} (h : w.ownsRow base e size v n xs) (hb : Below w.heap.size w w') : w'.ownsRow base e size v n xs := by
  refine ⟨h.1, ?_⟩
  rcases h.2 with h | ⟨g, cap, cur, h1, h2, h3, h4⟩
  · exact .inl h
  · exact .inr ⟨g, cap, cur, h1, h2, (hb.block g (Array.getElem?_eq_some_iff.1 h3).1).trans h3, h4⟩
end Go.Proofs.YtbggcofnopaloabDoor
namespace Go.Proofs.YtbggcofnopaloabDoor
open Go.RowKit Sx
structure turnWAt (w : World) (l : List Ins) (k : Nat) (v : Value) (W : World) : Prop where
  own : W.ownsRow w.heap.size 22 1 v k (encU ((l.take k).map fun x => (encI x).getD 0))
  pre : Pre w.heap.size w W
  good : ∀ (j : Nat) (y : Ins), j < k → l[j]? = some y → (encI y).isSome = true
theorem turnWAt.new {w : World} (hT : Tb w) (l : List Ins) (n : Nat) (hn : n ≤ 65536) : turnWAt w l 0 (.slice (some ⟨w.heap.size, 0, none⟩) 0 n) (w.alloc (.cells (madeCells #[.int .u32 0] n) 22)) := by
  have hb := (Below.refl w.heap.size w).alloc (Nat.le_refl _) (.cells (madeCells #[.int .u32 0] n) 22)
  refine ⟨?_, (Pre.refl hT).step hb, fun j y hj => absurd hj (by omega)⟩
  exact owns_made (by rw [size_madeCells, Nat.mul_one]) (by unfold maxLen; omega)
theorem turnWAt.next {w W W' : World} {l : List Ins} {k : Nat} {v v' : Value} {x : Ins} {y : Nat} (h : turnWAt w l k v W) (hx : l[k]? = some x) (hy : encI x = some y) (hP : Pre w.heap.size w W') (ho : W'.ownsRow w.heap.size 22 1 v' (k + 1) (encU ((l.take k).map fun x => (encI x).getD 0) ++ [.int .u32 (y : Int)])) : turnWAt w l (k + 1) v' W' := by
  refine ⟨?_, hP, fun j z hj hz => ?_⟩
  · have hk : k < l.length := (List.getElem?_eq_some_iff.1 hx).1
    have e : (l.take (k + 1)).map (fun x => (encI x).getD 0) = (l.take k).map (fun x => (encI x).getD 0) ++ [y] := by
      rw [List.take_add_one, hx, List.map_append]
      simp [hy]
    rw [e, encU_snoc]
    exact ho
  · by_cases e : j = k
    · subst e
      rw [hx] at hz
      obtain rfl := Option.some.inj hz
      rw [hy]
      rfl
    · exact h.good j z (by omega) hz
theorem news_ins (w : World) (i : Ins) : ∀ j u, (insC i).toList[j]? = some u → (w.alloc (.cells (insC i) 25)).cell? ((⟨w.heap.size, 0, none⟩ : Addr).add j) = some u := by
  intro j u hj
  rw [Addr.add_lit, Nat.zero_add]
  exact (Blk.new w 25 (insC i)).cell (by simpa using hj)
theorem owns_len {w : World} {base : Nat} {e : TypeId} {size : Nat} {v : Value} {n : Nat} {xs : List Value} (h : w.ownsRow base e size v n xs) : ∃ a cap, v = .slice a n cap := by
  rcases h.2 with ⟨rfl, rfl⟩ | ⟨g, cap, cur, rfl, _⟩
  · exact ⟨_, _, rfl⟩
  · exact ⟨_, _, rfl⟩
theorem pre_grown {w W W' : World} {e : TypeId} {size : Nat} {v : Value} {n : Nat} {xs : List Value} {o : Obj} (h : Pre w.heap.size w W) (ho : W.ownsRow w.heap.size e size v n xs) (hg : (W.alloc o).grownBy W' v.ownBlock) (hw : 0 < w.heap.size) : Pre w.heap.size w W' := by
  have hb : Below w.heap.size w W' := (h.bel.alloc h.le o).grown hg (by have := h.le; simp; omega) (fun q e => (ho.lt q e).1)
  have hT := h.tb
  have hz := hg.size
  rw [World.size_alloc] at hz
  refine ⟨?_, hb, by have := h.le; omega⟩
  have h0 : Below 1 W W' := ((Below.refl 1 W).alloc hT.lt o).grown hg (by have := hT.lt; simp only [World.size_alloc]; omega) (fun q e => by have := (ho.lt q e).1; omega)
  exact hT.below (by decide) h0
end Go.Proofs.YtbggcofnopaloabDoor
namespace Go.Proofs.YtbggcofnopaloabDoor
open Go.RowKit Sx
def turnLAns (w : World) (l : List Nat) (e : Ending) (w' : World) : Prop := Below w.heap.size w w' ∧
  ((16384 < l.length ∧ e = .returned (.tuple #[.slice none 0 0, .int .i64 16384, .int .i64 2])) ∨ (l.length ≤ 16384 ∧
    ((∃ (k : Nat) (x : Nat), l[k]? = some x ∧ decA x = none ∧ (∀ (j : Nat) (y : Nat), j < k → l[j]? = some y → (decA y).isSome = true) ∧ e = .returned (.tuple #[.slice none 0 0, .int .i64 (k : Int), .int .i64 7])) ∨
     ((∀ (j : Nat) (y : Nat), j < l.length → l[j]? = some y → (decA y).isSome = true) ∧ ∃ v, e = .returned (.tuple #[v, .int .i64 0, .int .i64 0]) ∧ w'.ownsRow w.heap.size 25 6 v l.length (encIs (l.map fun x => (decA x).getD zeroI))))))
structure turnLAt (w : World) (l : List Nat) (k : Nat) (v : Value) (W : World) : Prop where
  own : W.ownsRow w.heap.size 25 6 v k (encIs ((l.take k).map fun x => (decA x).getD zeroI))
  pre : Pre w.heap.size w W
  good : ∀ (j : Nat) (y : Nat), j < k → l[j]? = some y → (decA y).isSome = true
theorem turnLAt.new {w : World} (hT : Tb w) (l : List Nat) (n : Nat) (hn : n ≤ 65536) : turnLAt w l 0 (.slice (some ⟨w.heap.size, 0, none⟩) 0 n) (w.alloc (.cells (madeCells (insC zeroI) (n * 6)) 25)) := by
  have hb := (Below.refl w.heap.size w).alloc (Nat.le_refl _) (.cells (madeCells (insC zeroI) (n * 6)) 25)
  refine ⟨?_, (Pre.refl hT).step hb, fun j y hj => absurd hj (by omega)⟩
  exact owns_made (by rw [size_madeCells]) (by unfold maxLen; omega)
theorem turnLAt.next {w W W' : World} {l : List Nat} {k : Nat} {v v' : Value} {x : Nat} {y : Ins} (h : turnLAt w l k v W) (hx : l[k]? = some x) (hy : decA x = some y) (hP : Pre w.heap.size w W') (ho : W'.ownsRow w.heap.size 25 6 v' (k + 1) (encIs ((l.take k).map fun x => (decA x).getD zeroI) ++ (insC y).toList)) : turnLAt w l (k + 1) v' W' := by
  refine ⟨?_, hP, fun j z hj hz => ?_⟩
  · have hk : k < l.length := (List.getElem?_eq_some_iff.1 hx).1
    have e : (l.take (k + 1)).map (fun x => (decA x).getD zeroI) = (l.take k).map (fun x => (decA x).getD zeroI) ++ [y] := by
      rw [List.take_add_one, hx, List.map_append]
      simp [hy]
    rw [e, encIs_snoc]
    exact ho
  · by_cases e : j = k
    · subst e
      rw [hx] at hz
      obtain rfl := Option.some.inj hz
      rw [hy]
      rfl
    · exact h.good j z (by omega) hz
set_option maxRecDepth 100000 in
set_option maxHeartbeats 8000000 in
theorem turnL_calls (v : Value) (l : List Nat) (w : World) (hT : Tb w) (hv : U32sR w v l) (hop : ∀ x ∈ l, x < 4294967296) (hlen : l.length ≤ 9223372036854775807) :
    Calls Tryd.prog 30 #[v, .func (.func 9) #[] #[]] w (turnLAns w l) := by
  obtain ⟨p, cap, rfl, hp⟩ := hv.form
  by_cases hbig : 16384 < l.length
  · have hb2 : (16384 : Int) < (l.length : Int) := by omega
    have HA : Hid (turnLAns w l (.returned (.tuple #[.slice none 0 0, .int .i64 16384, .int .i64 2])) w) := ⟨Below.refl _ _, .inl ⟨hbig, rfl⟩⟩
    clear hbig hp hv hT hop
    go_enter Tryd.func30, Tryd.ntmps30
    go_wp2_with fail
    go_ret3
    exact HA.out
  · have hb2 : decide ((16384 : Int) < (l.length : Int)) = false := by simp; omega
    have hmk := make_inss l.length (by omega)
    obtain ⟨i0, hi, hz0, hz1, hz2⟩ := info_parts Tryd.infoins
    have HP := hid_of hp
    have HT0 := hid_of hT.lt
    have HN := hid_of (turnLAt.new hT l l.length (by omega))
    clear hp hv hT
    go_enter Tryd.func30, Tryd.ntmps30
    go_upto_region 5 with fail
    go_loopw [4, 19] (fun ov i wr => ∃ k : Nat, i = .int .i64 (k : Int) ∧ k ≤ l.length ∧ Hid (turnLAt w l k ov wr)) (fun _ i _ => l.length - (intOf i).toNat)
    case atStart => exact ⟨0, rfl, Nat.zero_le _, HN⟩
    case round =>
      obtain ⟨k, rfl, hk, HA⟩ := hrel
      by_cases hlt : k < l.length
      · obtain ⟨b, o, rfl, hB⟩ := HP.out (by omega)
        obtain ⟨x, hx⟩ : ∃ x, l[k]? = some x := ⟨_, List.getElem?_eq_getElem hlt⟩
        have c0 := (hB.below HA.out.pre.bel hB.lt).at_ k _ hx
        have hxo := hop _ (List.mem_of_getElem? hx)
        cases hd : decA x with
        | none =>
          have HD := hid_of hd
          have hc : ∀ W, Tb W → Calls Tryd.prog 9 #[.int .u32 (x : Int)] W fun e w' => e = .returned (.tuple #[.agg (insC zeroI), .int .i64 7]) ∧ Below W.heap.size W w' := fun W h => by
            have := cdDecode_calls x W hxo h
            unfold DecE at this
            rw [hd] at this
            exact this
          clear hd hxo hB hop
          go_upto_region 8 with (first | (go_at_call 9; refine (hc _ HA.out.pre.tb).mono ?_; rintro e w6 ⟨rfl, hB6⟩; have HP6 := hid_of (HA.out.pre.step hB6); have HO6 := hid_of (owns_below' HA.out.own hB6); clear hB6) | (refine wpList_store_row rfl 25 _ _ rfl w6.heap.size (insC zeroI) rfl rfl 25 (insC zeroI) (Blk.new w6 _ _) (by kernel_rfl) rfl (insC_all _) ?_))
          have hP7 := HP6.out.step (row_new w6 (insC zeroI) (insC zeroI)).2
          have HP7 := hid_of hP7
          generalize hw : (w6.alloc (.cells (insC zeroI) 25)).setRow w6.heap.size (insC zeroI) = w7 at *
          have hw' : (w6.alloc (.cells #[.int .i64 0, .int .i64 0, .int .i64 0, .int .i64 0, .int .i64 0, .int .i64 0] 25)).setRow w6.heap.size (insC zeroI) = w7 := hw
          have hw'' : (w6.alloc (.cells #[.int .i64 0, .int .i64 0, .int .i64 0, .int .i64 0, .int .i64 0, .int .i64 0] 25)).setRow w6.heap.size #[.int .i64 0, .int .i64 0, .int .i64 0, .int .i64 0, .int .i64 0, .int .i64 0] = w7 := hw
          try first | rw [hw'] | rw [hw'']
          clear hw hw' hw''
          clear hP7
          go_wp2_with fail
          go_ret3
          exact ⟨HP7.out.bel, .inr ⟨by omega, .inl ⟨k, x, hx, HD.out, HA.out.good, rfl⟩⟩⟩
        | some y =>
          have HD := hid_of hd
          have hc : ∀ W, Tb W → Calls Tryd.prog 9 #[.int .u32 (x : Int)] W fun e w' => e = .returned (.tuple #[.agg (insC y), .int .i64 0]) ∧ Below W.heap.size W w' := fun W h => by
            have := cdDecode_calls x W hxo h
            unfold DecE at this
            rw [hd] at this
            exact this
          clear hd hxo hB hop
          have hlk : k ≤ 16384 := by omega
          obtain ⟨oa, ocap, rfl⟩ := owns_len HA.out.own
          obtain ⟨op, rd, rn, rm, imm, cond⟩ := y
          go_upto_region 8 with (first | (go_at_call 9; refine (hc _ HA.out.pre.tb).mono ?_; rintro e w6 ⟨rfl, hB6⟩; have HP6 := hid_of (HA.out.pre.step hB6); have HO6 := hid_of (owns_below' HA.out.own hB6); clear hB6) | (refine wpList_store_row rfl 25 _ _ rfl w6.heap.size (insC ⟨op, rd, rn, rm, imm, cond⟩) rfl rfl 25 (insC zeroI) (Blk.new w6 _ _) (by kernel_rfl) rfl (insC_all _) ?_))
          have hO := HP6.out.row ⟨op, rd, rn, rm, imm, cond⟩ (insC zeroI)
          have HP7 := hid_of (HP6.out.step (row_new w6 (insC ⟨op, rd, rn, rm, imm, cond⟩) (insC zeroI)).2)
          have HO7 := hid_of (owns_below' HO6.out (row_new w6 (insC ⟨op, rd, rn, rm, imm, cond⟩) (insC zeroI)).2)
          generalize hw : (w6.alloc (.cells (insC zeroI) 25)).setRow w6.heap.size (insC ⟨op, rd, rn, rm, imm, cond⟩) = w7 at *
          have hw' : (w6.alloc (.cells #[.int .i64 0, .int .i64 0, .int .i64 0, .int .i64 0, .int .i64 0, .int .i64 0] 25)).setRow w6.heap.size (insC ⟨op, rd, rn, rm, imm, cond⟩) = w7 := hw
          have hw'' : (w6.alloc (.cells #[.int .i64 0, .int .i64 0, .int .i64 0, .int .i64 0, .int .i64 0, .int .i64 0] 25)).setRow w6.heap.size #[.int .i64 op, .int .i64 rd, .int .i64 rn, .int .i64 rm, .int .i64 imm, .int .i64 cond] = w7 := hw
          try first | rw [hw'] | rw [hw'']
          clear hw hw' hw''
          obtain ⟨d0, d1, d2, d3, d4, d5⟩ := InS.of hO.a
          dsimp only at d0 d1 d2 d3 d4 d5
          clear hO
          generalize hxs : encIs ((l.take k).map fun x => (decA x).getD zeroI) = xs at HO7
          go_wp2_with (at_builtin; refine wpList_append_own_at _ rfl _ _ 33 rfl w.heap.size 25 i0 (insV zeroI) 6 48 Tryd.underlying33 hi hz0 hz1 hz2 rfl (by decide) (.slice oa k ocap) k xs rfl (HO7.out.alloc _) ⟨_, 0, none⟩ 1 1 (insC ⟨op, rd, rn, rm, imm, cond⟩).toList rfl rfl (news_ins w7 ⟨op, rd, rn, rm, imm, cond⟩) (by simp [insC, Value.oneCell']) (by unfold maxLen; omega) (by omega) (by have := HP7.out.le; simp; omega) ?_; intro v8 w8 hown' hgrow _ _)
          have hP8 : Pre w.heap.size w w8 := pre_grown HP7.out HO7.out hgrow HT0.out
          rw [← hxs] at hown'
          exact ⟨⟨k + 1, by go_num, by omega, hid_of (HA.out.next hx HD.out hP8 hown')⟩, by simp [intOf]; omega⟩
      · obtain rfl : k = l.length := by omega
        obtain ⟨oa, ocap, rfl⟩ := owns_len HA.out.own
        go_wp2_with fail
        go_ret3
        refine ⟨HA.out.pre.bel, .inr ⟨by omega, .inr ⟨HA.out.good, _, rfl, ?_⟩⟩⟩
        have := HA.out.own
        rw [List.take_length] at this
        exact this
end Go.Proofs.YtbggcofnopaloabDoor
namespace Go.Proofs.YtbggcofnopaloabDoor
open Go.RowKit Sx
theorem turnL_big (v : Value) (l : List Nat) (w : World) (hT : Tb w) (hv : U32sR w v l) (hop : ∀ x ∈ l, x < 4294967296) (hlen : l.length ≤ 9223372036854775807) (hb : 16384 < l.length) : Calls Tryd.prog 30 #[v, .func (.func 9) #[] #[]] w fun e w' => e = .returned (.tuple #[.slice none 0 0, .int .i64 16384, .int .i64 2]) ∧ Below w.heap.size w w' := by
  refine (turnL_calls v l w hT hv hop hlen).mono ?_
  rintro e w' ⟨hB, h⟩
  rcases h with ⟨-, he⟩ | ⟨h1, -⟩
  · exact ⟨he, hB⟩
  · omega
set_option maxRecDepth 100000 in
set_option maxHeartbeats 4000000 in
theorem list_big (v : Value) (l : List Nat) (w : World) (hT : Tb w) (hv : U32sR w v l) (hop : ∀ x ∈ l, x < 4294967296) (hlen : l.length ≤ 9223372036854775807) (hb : 16384 < l.length) : Calls Tryd.prog 16 #[v] w fun e w' => e = .returned (.tuple #[.slice none 0 0, .int .i64 16384, .int .i64 2]) ∧ Below w.heap.size w w' := by
  have hc := turnL_big v l w hT hv hop hlen hb
  clear hT hv hop hb
  go_enter Tryd.func16, Tryd.ntmps16
  go_wp2_with (go_at_call 30; refine hc.mono ?_; rintro e w3 ⟨rfl, hB3⟩)
  go_ret3
  exact ⟨rfl, hB3⟩
theorem turnL_bad (v : Value) (l : List Nat) (w : World) (hT : Tb w) (hv : U32sR w v l) (hop : ∀ x ∈ l, x < 4294967296) (hlen : l.length ≤ 9223372036854775807) (hs : l.length ≤ 16384) (k : Nat) (x : Nat) (hx : l[k]? = some x) (hn : decA x = none) (hg : ∀ (j : Nat) (y : Nat), j < k → l[j]? = some y → (decA y).isSome = true) : Calls Tryd.prog 30 #[v, .func (.func 9) #[] #[]] w fun e w' => e = .returned (.tuple #[.slice none 0 0, .int .i64 (k : Int), .int .i64 7]) ∧ Below w.heap.size w w' := by
  refine (turnL_calls v l w hT hv hop hlen).mono ?_
  rintro e w' ⟨hB, h⟩
  rcases h with ⟨h1, -⟩ | ⟨-, ⟨k2, x2, h2, h3, h4, he⟩ | ⟨h2, -⟩⟩
  · omega
  · have : k2 = k := by
      by_cases c1 : k2 < k
      · have := hg k2 x2 c1 h2
        rw [h3] at this
        cases this
      · by_cases c2 : k < k2
        · have := h4 k x c2 hx
          rw [hn] at this
          cases this
        · omega
    subst this
    exact ⟨he, hB⟩
  · have := h2 k x (List.getElem?_eq_some_iff.1 hx).1 hx
    rw [hn] at this
    cases this
set_option maxRecDepth 100000 in
set_option maxHeartbeats 4000000 in
theorem list_bad (v : Value) (l : List Nat) (w : World) (hT : Tb w) (hv : U32sR w v l) (hop : ∀ x ∈ l, x < 4294967296) (hlen : l.length ≤ 9223372036854775807) (hs : l.length ≤ 16384) (k : Nat) (x : Nat) (hx : l[k]? = some x) (hn : decA x = none) (hg : ∀ (j : Nat) (y : Nat), j < k → l[j]? = some y → (decA y).isSome = true) : Calls Tryd.prog 16 #[v] w fun e w' => e = .returned (.tuple #[.slice none 0 0, .int .i64 (k : Int), .int .i64 7]) ∧ Below w.heap.size w w' := by
  have hc := turnL_bad v l w hT hv hop hlen hs k x hx hn hg
  clear hT hv hop hs hx hn hg
  go_enter Tryd.func16, Tryd.ntmps16
  go_wp2_with (go_at_call 30; refine hc.mono ?_; rintro e w3 ⟨rfl, hB3⟩)
  go_ret3
  exact ⟨rfl, hB3⟩
theorem turnL_ok (v : Value) (l : List Nat) (w : World) (hT : Tb w) (hv : U32sR w v l) (hop : ∀ x ∈ l, x < 4294967296) (hlen : l.length ≤ 9223372036854775807) (hs : l.length ≤ 16384) (hg : ∀ (j : Nat) (y : Nat), j < l.length → l[j]? = some y → (decA y).isSome = true) : Calls Tryd.prog 30 #[v, .func (.func 9) #[] #[]] w fun e w' => (∃ v', e = .returned (.tuple #[v', .int .i64 0, .int .i64 0]) ∧ w'.ownsRow w.heap.size 25 6 v' l.length (encIs (l.map fun x => (decA x).getD zeroI))) ∧ Below w.heap.size w w' := by
  refine (turnL_calls v l w hT hv hop hlen).mono ?_
  rintro e w' ⟨hB, h⟩
  rcases h with ⟨h1, -⟩ | ⟨-, ⟨k2, x2, h2, h3, -, -⟩ | ⟨-, h2⟩⟩
  · omega
  · have := hg k2 x2 (List.getElem?_eq_some_iff.1 h2).1 h2
    rw [h3] at this
    cases this
  · obtain ⟨v', he, ho⟩ := h2
    exact ⟨⟨v', he, ho⟩, hB⟩
set_option maxRecDepth 100000 in
set_option maxHeartbeats 4000000 in
theorem list_ok (v : Value) (l : List Nat) (w : World) (hT : Tb w) (hv : U32sR w v l) (hop : ∀ x ∈ l, x < 4294967296) (hlen : l.length ≤ 9223372036854775807) (hs : l.length ≤ 16384) (hg : ∀ (j : Nat) (y : Nat), j < l.length → l[j]? = some y → (decA y).isSome = true) : Calls Tryd.prog 16 #[v] w fun e w' => (∃ v', e = .returned (.tuple #[v', .int .i64 0, .int .i64 0]) ∧ w'.ownsRow w.heap.size 25 6 v' l.length (encIs (l.map fun x => (decA x).getD zeroI))) ∧ Below w.heap.size w w' := by
  have hc := turnL_ok v l w hT hv hop hlen hs hg
  clear hT hv hop hs hg
  go_enter Tryd.func16, Tryd.ntmps16
  go_wp2_with (go_at_call 30; refine hc.mono ?_; rintro e w3 ⟨⟨v3, rfl, ho3⟩, hB3⟩)
  go_ret3
  exact ⟨⟨v3, rfl, ho3⟩, hB3⟩
end Go.Proofs.YtbggcofnopaloabDoor
namespace Go.Proofs.YtbggcofnopaloabDoor
open Go.RowKit Sx
def U32sArg (W : World) (v : Value) (l : List Nat) : Prop := U32sR W v l ∧ (∀ x ∈ l, x < 4294967296) ∧ l.length ≤ 9223372036854775807
theorem first_bad {α β : Type} (f : α → Option β) : ∀ l : List α, (∃ (k : Nat) (x : α), l[k]? = some x ∧ f x = none ∧ ∀ (j : Nat) (y : α), j < k → l[j]? = some y → (f y).isSome = true) ∨ ∀ (j : Nat) (y : α), l[j]? = some y → (f y).isSome = true
  | [] => .inr (fun j y h => by simp at h)
  | a :: l => by
    cases h : f a with
    | none => exact .inl ⟨0, a, rfl, h, fun j y hj => absurd hj (by omega)⟩
    | some b =>
      have h0 : (f a).isSome = true := by rw [h]; rfl
      rcases first_bad f l with ⟨k, x, h1, h2, h3⟩ | h2
      · refine .inl ⟨k + 1, x, by simpa using h1, h2, fun j y hj hy => ?_⟩
        cases j with
        | zero =>
          obtain rfl : a = y := by simpa using hy
          exact h0
        | succ j => exact h3 j y (by omega) (by simpa using hy)
      · refine .inr (fun j y hy => ?_)
        cases j with
        | zero =>
          obtain rfl : a = y := by simpa using hy
          exact h0
        | succ j => exact h2 j y (by simpa using hy)
theorem InssR.formN {W : World} {v : Value} {l : List Ins} (h : InssR W v l) (n : Nat) (hn : l.length = n) : ∃ p cap, v = .slice p n cap ∧ (0 < n → ∃ b o, p = some ⟨b, o, none⟩ ∧ InsB W b o l) := by
  subst hn
  exact h.form
theorem U32sR.formN {W : World} {v : Value} {l : List Nat} (h : U32sR W v l) (n : Nat) (hn : l.length = n) : ∃ p cap, v = .slice p n cap ∧ (0 < n → ∃ b o, p = some ⟨b, o, none⟩ ∧ U32B W b o l) := by
  subst hn
  exact h.form
theorem Pre.of_below {N : Nat} {w0 w w' : World} (h : Pre N w0 w) (hb : Below w.heap.size w w') : Pre N w0 w' := h.step hb
structure Cmp (N b o m : Nat) (w0 : World) (i : Ins) (W : World) : Prop where
  a : InsAt W b o i
  lt : b < W.heap.size
  c : Blk W m 38 (insC i)
  pre : Pre N w0 W
theorem Cmp.step {N b o m : Nat} {w0 W W' : World} {i : Ins} (h : Cmp N b o m w0 i W) (hb : Below W.heap.size W W') : Cmp N b o m w0 i W' := ⟨h.a.below hb h.lt, Nat.lt_of_lt_of_le h.lt hb.size, h.c.of_below hb, h.pre.step hb⟩
theorem Cmp.drew {N b o m : Nat} {w0 W : World} {i : Ins} (h : Cmp N b o m w0 i W) : Cmp N b o m w0 i W.drew := h.step (Below.refl _ _).drew
theorem Cmp.cells {N b o m : Nat} {w0 W : World} {op rd rn rm imm cond : Int} (h : Cmp N b o m w0 ⟨op, rd, rn, rm, imm, cond⟩ W) : W.cell? ⟨b, o, none⟩ = some (.int .i64 op) ∧ W.cell? ⟨b, o + 1, none⟩ = some (.int .i64 rd) ∧ W.cell? ⟨b, o + 2, none⟩ = some (.int .i64 rn) ∧ W.cell? ⟨b, o + 3, none⟩ = some (.int .i64 rm) ∧ W.cell? ⟨b, o + 4, none⟩ = some (.int .i64 imm) ∧ W.cell? ⟨b, o + 5, none⟩ = some (.int .i64 cond) ∧ W.cell? ⟨m, 0, none⟩ = some (.int .i64 op) ∧ W.cell? ⟨m, 1, none⟩ = some (.int .i64 rd) ∧ W.cell? ⟨m, 2, none⟩ = some (.int .i64 rn) ∧ W.cell? ⟨m, 3, none⟩ = some (.int .i64 rm) ∧ W.cell? ⟨m, 4, none⟩ = some (.int .i64 imm) ∧ W.cell? ⟨m, 5, none⟩ = some (.int .i64 cond) := by
  obtain ⟨a, b, c, d, e, f⟩ := InS.ofT h.c
  exact ⟨h.a.p0, h.a.p1, h.a.p2, h.a.p3, h.a.p4, h.a.p5, a, b, c, d, e, f⟩
structure Cmw (N b o c p : Nat) (w0 : World) (x : Nat) (i : Ins) (W : World) : Prop where
  x : W.cell? ⟨b, o, none⟩ = some (.int .u32 (x : Int))
  lt : b < W.heap.size
  a : InsAt W c p i
  lt2 : c < W.heap.size
  pre : Pre N w0 W
theorem Cmw.step {N b o c p : Nat} {w0 W W' : World} {x : Nat} {i : Ins} (h : Cmw N b o c p w0 x i W) (hb : Below W.heap.size W W') : Cmw N b o c p w0 x i W' := ⟨(hb.cell (p := ⟨b, o, none⟩) h.lt).trans h.x, Nat.lt_of_lt_of_le h.lt hb.size, h.a.below hb h.lt2, Nat.lt_of_lt_of_le h.lt2 hb.size, h.pre.step hb⟩
theorem Cmw.drew {N b o c p : Nat} {w0 W : World} {x : Nat} {i : Ins} (h : Cmw N b o c p w0 x i W) : Cmw N b o c p w0 x i W.drew := h.step (Below.refl _ _).drew
theorem Cmw.cells {N b o c p : Nat} {w0 W : World} {x : Nat} {op rd rn rm imm cond : Int} (h : Cmw N b o c p w0 x ⟨op, rd, rn, rm, imm, cond⟩ W) : W.cell? ⟨b, o, none⟩ = some (.int .u32 (x : Int)) ∧ W.cell? ⟨c, p, none⟩ = some (.int .i64 op) ∧ W.cell? ⟨c, p + 1, none⟩ = some (.int .i64 rd) ∧ W.cell? ⟨c, p + 2, none⟩ = some (.int .i64 rn) ∧ W.cell? ⟨c, p + 3, none⟩ = some (.int .i64 rm) ∧ W.cell? ⟨c, p + 4, none⟩ = some (.int .i64 imm) ∧ W.cell? ⟨c, p + 5, none⟩ = some (.int .i64 cond) := ⟨h.x, h.a.p0, h.a.p1, h.a.p2, h.a.p3, h.a.p4, h.a.p5⟩
theorem row_newR (w : World) (j z : Array Value) : Blk ((w.alloc (.cells z 38)).setRow w.heap.size j) w.heap.size 38 j ∧ Below w.heap.size w ((w.alloc (.cells z 38)).setRow w.heap.size j) :=
  ⟨(Blk.new w 38 z).setRow' j, ((Below.refl _ _).alloc (Nat.le_refl _) _).trans (below_row _ (Nat.le_refl _))⟩
theorem Pre.two {w w4 W : World} (h : Pre w.heap.size w w4) (k : Pre w4.heap.size w4 W) : Pre w.heap.size w W := ⟨k.tb, h.bel.trans (k.bel.mono h.le), Nat.le_trans h.le k.le⟩
theorem U32sR.under {W W' : World} {v : Value} {l : List Nat} (h : U32sR W v l) (hb : Below W.heap.size W W') : U32sR W' v l := h.step hb
theorem InsB.same {W W' : World} {b o : Nat} {l : List Ins} (h : InsB W b o l) (e : W'.heap = W.heap) : InsB W' b o l := by
  have hc : ∀ p, W'.cell? p = W.cell? p := fun p => by unfold World.cell?; rw [e]
  refine ⟨by rw [e]; exact h.lt, fun j i hj => ?_⟩
  obtain ⟨a, b, c, d, e, f⟩ := h.at_ j i hj
  exact ⟨(hc _).trans a, (hc _).trans b, (hc _).trans c, (hc _).trans d, (hc _).trans e, (hc _).trans f⟩
end Go.Proofs.YtbggcofnopaloabDoor
namespace Go.Proofs.YtbggcofnopaloabDoor
open Go.RowKit Sx
set_option maxRecDepth 100000 in
set_option maxHeartbeats 8000000 in
theorem CodeLists_big (p : Option Addr) (cap : Nat) (l : List Nat) (w : World) (hT : Tb w) (hv : U32sR w (.slice p l.length cap) l) (_ : 0 < l.length → ∃ b o, p = some ⟨b, o, none⟩ ∧ U32B w b o l) (hop : ∀ x ∈ l, x < 4294967296) (hlen : l.length ≤ 9223372036854775807) (hb : 16384 < l.length) :
    Calls Tryd.prog 5 #[.slice p l.length cap] w fun e w' => e = .returned (.bool true) ∧ Below w.heap.size w w' := by
  have hc0 := l14awake_calls
  have HP := hid_of (Pre.refl hT)
  have HV := hid_of hv
  have hb2 : (16384 : Int) < (l.length : Int) := by omega
  have hc1 := fun W h1 h2 => list_big (.slice p l.length cap) l W h1 h2 hop hlen hb
  clear hv hT hop hb
  go_enter Tryd.func5, Tryd.ntmps5
  go_wp2_with (first | (go_at_call 8; refine (hc0 _ HP.out.tb).mono ?_; rintro e w3 ⟨rfl, hB3⟩; have HP3 := hid_of (HP.out.step hB3); have HV3 := hid_of (HV.out.step hB3); clear hB3 HP HV) | (go_at_call 16; refine (hc1 _ HP3.out.tb HV3.out).mono ?_; rintro e w4 ⟨rfl, hB4⟩; have HP4 := hid_of (HP3.out.step hB4); clear hB4 HP3))
  go_ret
  exact ⟨rfl, HP4.out.bel⟩
set_option maxRecDepth 100000 in
set_option maxHeartbeats 8000000 in
theorem CodeLists_bad (p : Option Addr) (cap : Nat) (l : List Nat) (w : World) (hT : Tb w) (hv : U32sR w (.slice p l.length cap) l) (hp : 0 < l.length → ∃ b o, p = some ⟨b, o, none⟩ ∧ U32B w b o l) (hop : ∀ x ∈ l, x < 4294967296) (hlen : l.length ≤ 9223372036854775807) (hs : l.length ≤ 16384) (k : Nat) (z : Nat) (hz : l[k]? = some z) (hn : decA z = none) (hg : ∀ (j : Nat) (y : Nat), j < k → l[j]? = some y → (decA y).isSome = true) :
    Calls Tryd.prog 5 #[.slice p l.length cap] w fun e w' => e = .returned (.bool true) ∧ Below w.heap.size w w' := by
  have hc0 := l14awake_calls
  have HP := hid_of (Pre.refl hT)
  have HV := hid_of hv
  have hb2 : decide ((16384 : Int) < (l.length : Int)) = false := by simp; omega
  have hc1 := fun W h1 h2 => list_bad (.slice p l.length cap) l W h1 h2 hop hlen hs k z hz hn hg
  have hkl : k < l.length := (List.getElem?_eq_some_iff.1 hz).1
  have HPP := hid_of hp
  clear hv hp hT
  go_enter Tryd.func5, Tryd.ntmps5
  go_upto_region 7 with (first | (go_at_call 8; refine (hc0 _ HP.out.tb).mono ?_; rintro e w3 ⟨rfl, hB3⟩; have HP3 := hid_of (HP.out.step hB3); have HV3 := hid_of (HV.out.step hB3); clear hB3 HP HV) | (go_at_call 16; refine (hc1 _ HP3.out.tb HV3.out).mono ?_; rintro e w4 ⟨rfl, hB4⟩; have HP4 := hid_of (HP3.out.step hB4); clear hB4 HP3))
  clear hc0 hc1
  go_loopw [6] (fun i wr => ∃ n : Nat, n ≤ k ∧ i = .int .i64 n ∧ Hid (Pre w.heap.size w wr)) (fun i _ => k + 1 - (intOf i).toNat)
  case atStart => exact ⟨0, by omega, rfl, HP4⟩
  case round =>
    obtain ⟨n, hnk, rfl, HPr⟩ := hrel
    obtain ⟨b, o, rfl, hB⟩ := HPP.out (by omega)
    have hnl : n < l.length := by omega
    by_cases hlt : n < k
    · obtain ⟨x, hx⟩ : ∃ x, l[n]? = some x := ⟨_, List.getElem?_eq_getElem hnl⟩
      have c0 := (hB.below HPr.out.bel hB.lt).at_ n x hx
      have hxo := hop _ (List.mem_of_getElem? hx)
      obtain ⟨y, hd⟩ := Option.isSome_iff_exists.1 (hg n x (by omega) hx)
      obtain ⟨op, rd, rn, rm, imm, cond⟩ := y
      have hc2 : ∀ W, Calls Tryd.prog 17 #[.int .u32 (x : Int)] W fun e w' => e = .returned (.tuple #[.agg (insC ⟨op, rd, rn, rm, imm, cond⟩), .bool true]) ∧ Below W.heap.size W w' := fun W => by
        have := r14Decode_calls x W hxo
        unfold DecR at this
        rw [hd] at this
        exact this
      clear hd hxo hx hB
      go_upto_region 10 with (first | (go_at_call 17; refine (hc2 _).mono ?_; rintro e w5 ⟨rfl, hB5⟩; have HP5 := hid_of (HPr.out.step hB5); clear hB5) | (refine wpList_store_row rfl 38 _ _ rfl w5.heap.size (insC ⟨op, rd, rn, rm, imm, cond⟩) rfl rfl 38 (insC zeroI) (Blk.new w5 _ _) (by kernel_rfl) rfl (insC_all _) ?_))
      have HP6 := hid_of (HP5.out.step (row_newR w5 (insC ⟨op, rd, rn, rm, imm, cond⟩) (insC zeroI)).2)
      generalize hw : (w5.alloc (.cells (insC zeroI) 38)).setRow w5.heap.size (insC ⟨op, rd, rn, rm, imm, cond⟩) = w6 at *
      have hw' : (w5.alloc (.cells #[.int .i64 0, .int .i64 0, .int .i64 0, .int .i64 0, .int .i64 0, .int .i64 0] 38)).setRow w5.heap.size (insC ⟨op, rd, rn, rm, imm, cond⟩) = w6 := hw
      have hw'' : (w5.alloc (.cells #[.int .i64 0, .int .i64 0, .int .i64 0, .int .i64 0, .int .i64 0, .int .i64 0] 38)).setRow w5.heap.size #[.int .i64 op, .int .i64 rd, .int .i64 rn, .int .i64 rm, .int .i64 imm, .int .i64 cond] = w6 := hw
      try first | rw [hw'] | rw [hw'']
      clear hw hw' hw''
      go_wp2_with fail
      exact ⟨⟨n + 1, by omega, by go_num, HP6⟩, by simp [intOf]; omega⟩
    · obtain rfl : n = k := by omega
      have hx := hz
      have c0 := (hB.below HPr.out.bel hB.lt).at_ n z hx
      have hxo := hop _ (List.mem_of_getElem? hx)
      have hd := hn
      have hc2 : ∀ W, Calls Tryd.prog 17 #[.int .u32 (z : Int)] W fun e w' => e = .returned (.tuple #[.agg (insC zeroI), .bool false]) ∧ Below W.heap.size W w' := fun W => by
        have := r14Decode_calls z W hxo
        unfold DecR at this
        rw [hd] at this
        exact this
      clear hd hxo hx hB
      go_upto_region 10 with (first | (go_at_call 17; refine (hc2 _).mono ?_; rintro e w5 ⟨rfl, hB5⟩; have HP5 := hid_of (HPr.out.step hB5); clear hB5) | (refine wpList_store_row rfl 38 _ _ rfl w5.heap.size (insC zeroI) rfl rfl 38 (insC zeroI) (Blk.new w5 _ _) (by kernel_rfl) rfl (insC_all _) ?_))
      have HP6 := hid_of (HP5.out.step (row_newR w5 (insC zeroI) (insC zeroI)).2)
      generalize hw : (w5.alloc (.cells (insC zeroI) 38)).setRow w5.heap.size (insC zeroI) = w6 at *
      have hw' : (w5.alloc (.cells #[.int .i64 0, .int .i64 0, .int .i64 0, .int .i64 0, .int .i64 0, .int .i64 0] 38)).setRow w5.heap.size (insC zeroI) = w6 := hw
      have hw'' : (w5.alloc (.cells #[.int .i64 0, .int .i64 0, .int .i64 0, .int .i64 0, .int .i64 0, .int .i64 0] 38)).setRow w5.heap.size #[.int .i64 0, .int .i64 0, .int .i64 0, .int .i64 0, .int .i64 0, .int .i64 0] = w6 := hw
      try first | rw [hw'] | rw [hw'']
      clear hw hw' hw''
      go_wp2_with fail
      go_ret
      exact ⟨rfl, HP6.out.bel⟩
set_option maxRecDepth 100000 in
set_option maxHeartbeats 8000000 in
theorem CodeLists_ok (p : Option Addr) (cap : Nat) (l : List Nat) (w : World) (hT : Tb w) (hv : U32sR w (.slice p l.length cap) l) (hp : 0 < l.length → ∃ b o, p = some ⟨b, o, none⟩ ∧ U32B w b o l) (hop : ∀ x ∈ l, x < 4294967296) (hlen : l.length ≤ 9223372036854775807) (hs : l.length ≤ 16384) (hg : ∀ (j : Nat) (y : Nat), j < l.length → l[j]? = some y → (decA y).isSome = true) :
    Calls Tryd.prog 5 #[.slice p l.length cap] w fun e w' => e = .returned (.bool true) ∧ Below w.heap.size w w' := by
  have hc0 := l14awake_calls
  have HP := hid_of (Pre.refl hT)
  have HV := hid_of hv
  have hb2 : decide ((16384 : Int) < (l.length : Int)) = false := by simp; omega
  have hc1 := fun W h1 h2 => list_ok (.slice p l.length cap) l W h1 h2 hop hlen hs hg
  have HPP := hid_of hp
  clear hv hp hT
  go_enter Tryd.func5, Tryd.ntmps5
  go_upto_region 4 with (first | (go_at_call 8; refine (hc0 _ HP.out.tb).mono ?_; rintro e w3 ⟨rfl, hB3⟩; have HP3 := hid_of (HP.out.step hB3); have HV3 := hid_of (HV.out.step hB3); clear hB3 HP HV) | (go_at_call 16; refine (hc1 _ HP3.out.tb HV3.out).mono ?_; rintro e w4 ⟨⟨v4, rfl, ho4⟩, hB4⟩; have HP4 := hid_of (HP3.out.step hB4); obtain ⟨p3, cap3, rfl, hp3⟩ := (owns_ins (l := l.map fun x => (decA x).getD zeroI) (by rw [List.length_map]; exact ho4)).formN l.length (List.length_map ..); have HP3P := hid_of hp3; clear ho4 hp3; clear hB4 HP3))
  clear hc0 hc1
  go_upto_region 7 with fail
  go_loopw [6] (fun i wr => ∃ n : Nat, n ≤ l.length ∧ i = .int .i64 n ∧ Hid (Pre w4.heap.size w4 wr)) (fun i _ => l.length - (intOf i).toNat)
  case atStart => exact ⟨0, by omega, rfl, hid_of (Pre.refl HP4.out.tb)⟩
  case round =>
    obtain ⟨n, hnk, rfl, HPq⟩ := hrel
    have HPr := hid_of (Pre.two HP4.out HPq.out)
    by_cases hnl : n < l.length
    · obtain ⟨b, o, rfl, hB⟩ := HPP.out (by omega)
      obtain ⟨x, hx⟩ : ∃ x, l[n]? = some x := ⟨_, List.getElem?_eq_getElem hnl⟩
      have c0 := (hB.below HPr.out.bel hB.lt).at_ n x hx
      have hxo := hop _ (List.mem_of_getElem? hx)
      obtain ⟨y, hd⟩ := Option.isSome_iff_exists.1 (hg n x (by omega) hx)
      obtain ⟨op, rd, rn, rm, imm, cond⟩ := y
      have hc2 : ∀ W, Calls Tryd.prog 17 #[.int .u32 (x : Int)] W fun e w' => e = .returned (.tuple #[.agg (insC ⟨op, rd, rn, rm, imm, cond⟩), .bool true]) ∧ Below W.heap.size W w' := fun W => by
        have := r14Decode_calls x W hxo
        unfold DecR at this
        rw [hd] at this
        exact this
      clear hd hxo hx hB
      go_upto_region 10 with (first | (go_at_call 17; refine (hc2 _).mono ?_; rintro e w5 ⟨rfl, hB5⟩; have HPq5 := hid_of (HPq.out.step hB5); clear hB5) | (refine wpList_store_row rfl 38 _ _ rfl w5.heap.size (insC ⟨op, rd, rn, rm, imm, cond⟩) rfl rfl 38 (insC zeroI) (Blk.new w5 _ _) (by kernel_rfl) rfl (insC_all _) ?_))
      have HP7 := hid_of (HPq5.out.step (row_newR w5 (insC ⟨op, rd, rn, rm, imm, cond⟩) (insC zeroI)).2)
      generalize hw : (w5.alloc (.cells (insC zeroI) 38)).setRow w5.heap.size (insC ⟨op, rd, rn, rm, imm, cond⟩) = w6 at *
      have hw' : (w5.alloc (.cells #[.int .i64 0, .int .i64 0, .int .i64 0, .int .i64 0, .int .i64 0, .int .i64 0] 38)).setRow w5.heap.size (insC ⟨op, rd, rn, rm, imm, cond⟩) = w6 := hw
      have hw'' : (w5.alloc (.cells #[.int .i64 0, .int .i64 0, .int .i64 0, .int .i64 0, .int .i64 0, .int .i64 0] 38)).setRow w5.heap.size #[.int .i64 op, .int .i64 rd, .int .i64 rn, .int .i64 rm, .int .i64 imm, .int .i64 cond] = w6 := hw
      try first | rw [hw'] | rw [hw'']
      clear hw hw' hw''
      go_wp2_with fail
      exact ⟨⟨n + 1, by omega, by go_num, HP7⟩, by simp [intOf]; omega⟩
    · obtain rfl : n = l.length := by omega
      go_upto_region 15 with fail
      go_loopw [9] (fun i ws => ∃ n : Nat, n ≤ l.length ∧ i = .int .i64 n ∧ Hid (Pre w4.heap.size w4 ws)) (fun i _ => l.length - (intOf i).toNat)
      case atStart => exact ⟨0, by omega, rfl, HPq⟩
      case round =>
        clear HPr HPq
        obtain ⟨n, hnk, rfl, HPq⟩ := hrel
        have HPr := hid_of (Pre.two HP4.out HPq.out)
        by_cases hnl : n < l.length
        · obtain ⟨b, o, rfl, hB⟩ := HPP.out (by omega)
          obtain ⟨b3, o3, rfl, hB3⟩ := HP3P.out (by omega)
          obtain ⟨x, hx⟩ : ∃ x, l[n]? = some x := ⟨_, List.getElem?_eq_getElem hnl⟩
          have c0 := (hB.below HPr.out.bel hB.lt).at_ n x hx
          have hxo := hop _ (List.mem_of_getElem? hx)
          obtain ⟨y, hd⟩ := Option.isSome_iff_exists.1 (hg n x (by omega) hx)
          have ha := (hB3.below HPq.out.bel hB3.lt).at_ n y (by rw [List.getElem?_map, hx]; simp [hd])
          have hlb := Nat.lt_of_lt_of_le hB3.lt HPq.out.bel.size
          obtain ⟨op, rd, rn, rm, imm, cond⟩ := y
          have hc2 : ∀ W, Calls Tryd.prog 17 #[.int .u32 (x : Int)] W fun e w' => e = .returned (.tuple #[.agg (insC ⟨op, rd, rn, rm, imm, cond⟩), .bool true]) ∧ Below W.heap.size W w' := fun W => by
            have := r14Decode_calls x W hxo
            unfold DecR at this
            rw [hd] at this
            exact this
          have hcC := fun W => l14Api_calls ⟨op, rd, rn, rm, imm, cond⟩ W
          unfold insV at hcC
          dsimp only at hcC
          have HQ1 : Hid (∀ W, (Op.equalIn 10000 25 (.agg #[.int .i64 op, .int .i64 rd, .int .i64 rn, .int .i64 rm, .int .i64 imm, .int .i64 cond]) (.agg #[.int .i64 op, .int .i64 rd, .int .i64 rn, .int .i64 rm, .int .i64 imm, .int .i64 cond])).run Tryd.prog W = .ok true W) := fun W => (ins_eqIn W ⟨op, rd, rn, rm, imm, cond⟩ ⟨op, rd, rn, rm, imm, cond⟩).trans (by rw [insEq_self])
          have HHA := hid_of ha
          have HLB := hid_of hlb
          clear hd hxo hx hB hB3 ha hlb
          go_upto_region 18 with (first | (go_at_call 17; refine (hc2 _).mono ?_; rintro e w5 ⟨rfl, hB5⟩; have HP5 := hid_of (HPq.out.step hB5); have HA5 := hid_of (HHA.out.below hB5 HLB.out); have HL5 := hid_of (Nat.lt_of_lt_of_le HLB.out hB5.size); clear hB5) | (refine wpList_store_row rfl 38 _ _ rfl w5.heap.size (insC ⟨op, rd, rn, rm, imm, cond⟩) rfl rfl 38 (insC zeroI) (Blk.new w5 _ _) (by kernel_rfl) rfl (insC_all _) ?_))
          obtain ⟨hb6, hB6⟩ := row_newR w5 (insC ⟨op, rd, rn, rm, imm, cond⟩) (insC zeroI)
          have hW6 : Cmp w4.heap.size b3 (o3 + n * 6) w5.heap.size w4 ⟨op, rd, rn, rm, imm, cond⟩ ((w5.alloc (.cells (insC zeroI) 38)).setRow w5.heap.size (insC ⟨op, rd, rn, rm, imm, cond⟩)) := ⟨HA5.out.below hB6 HL5.out, Nat.lt_of_lt_of_le HL5.out hB6.size, hb6, HP5.out.step hB6⟩
          clear hb6 hB6 c0
          generalize hw : (w5.alloc (.cells (insC zeroI) 38)).setRow w5.heap.size (insC ⟨op, rd, rn, rm, imm, cond⟩) = w6 at *
          have hw' : (w5.alloc (.cells #[.int .i64 0, .int .i64 0, .int .i64 0, .int .i64 0, .int .i64 0, .int .i64 0] 38)).setRow w5.heap.size (insC ⟨op, rd, rn, rm, imm, cond⟩) = w6 := hw
          have hw'' : (w5.alloc (.cells #[.int .i64 0, .int .i64 0, .int .i64 0, .int .i64 0, .int .i64 0, .int .i64 0] 38)).setRow w5.heap.size #[.int .i64 op, .int .i64 rd, .int .i64 rn, .int .i64 rm, .int .i64 imm, .int .i64 cond] = w6 := hw
          try first | rw [hw'] | rw [hw'']
          clear hw hw' hw''
          have hS7 := hW6.cells
          have HW7 := hid_of hW6
          clear hW6
          have hq1 := HQ1.out
          go_region_held3 (fun W => W.cell? ⟨b3, o3 + n * 6, none⟩ = some (.int .i64 op) ∧ W.cell? ⟨b3, o3 + n * 6 + 1, none⟩ = some (.int .i64 rd) ∧ W.cell? ⟨b3, o3 + n * 6 + 2, none⟩ = some (.int .i64 rn) ∧ W.cell? ⟨b3, o3 + n * 6 + 3, none⟩ = some (.int .i64 rm) ∧ W.cell? ⟨b3, o3 + n * 6 + 4, none⟩ = some (.int .i64 imm) ∧ W.cell? ⟨b3, o3 + n * 6 + 5, none⟩ = some (.int .i64 cond) ∧ W.cell? ⟨w5.heap.size, 0, none⟩ = some (.int .i64 op) ∧ W.cell? ⟨w5.heap.size, 1, none⟩ = some (.int .i64 rd) ∧ W.cell? ⟨w5.heap.size, 2, none⟩ = some (.int .i64 rn) ∧ W.cell? ⟨w5.heap.size, 3, none⟩ = some (.int .i64 rm) ∧ W.cell? ⟨w5.heap.size, 4, none⟩ = some (.int .i64 imm) ∧ W.cell? ⟨w5.heap.size, 5, none⟩ = some (.int .i64 cond)) (first | assumption | exact hS7 | exact hS8) (first | (go_at_call 18; refine (hcC _).mono ?_; rintro e w8 ⟨rfl, hB8⟩; have hW8 := (HW7.out.drew).step hB8; have hS8 := hW8.cells))
          have HW8 := hid_of hW8
          clear hS7 hS8 hB8 hW8
          go_wp2_with fail
          exact ⟨⟨n + 1, by omega, by go_num, hid_of HW8.out.pre⟩, by simp [intOf]; omega⟩
        · obtain rfl : n = l.length := by omega
          go_wp2_with fail
          go_ret
          exact ⟨rfl, HPr.out.bel⟩
theorem CodeLists_calls (l : List Nat) (v : Value) (w : World) (hT : Tb w) (hk : U32sArg w v l) : Calls Tryd.prog 5 #[v] w fun e w' => e = .returned (.bool true) ∧ Below w.heap.size w w' := by
  obtain ⟨hv, hop, hlen⟩ := hk
  obtain ⟨p, cap, rfl, hp⟩ := hv.form
  by_cases hbig : 16384 < l.length
  · exact CodeLists_big p cap l w hT hv hp hop hlen hbig
  · rcases first_bad decA l with ⟨k, x, h1, h2, h3⟩ | h
    · exact CodeLists_bad p cap l w hT hv hp hop hlen (by omega) k x h1 h2 h3
    · exact CodeLists_ok p cap l w hT hv hp hop hlen (by omega) (fun j y _ hy => h j y hy)
end Go.Proofs.YtbggcofnopaloabDoor
