/- LexFirst: its mathematics, and its list of bytes. -/
import Derived.Test.YtkgppagpjbkhmaaDoorLxSame
import Derived.Test.YtkgppagpjbkhmaaDoorLxPlaces
namespace Go.Proofs.YtkgppagpjbkhmaaDoor
open Go.RowKit Go.Shelf

def firstS (s t : ByteArray) (n : Nat) : ByteArray := ⟨(s.data.toList.take n ++ [10] ++ t.data.toList).toArray⟩
theorem firstS_size (s t : ByteArray) (n : Nat) (h : n ≤ s.size) : (firstS s t n).size = n + 1 + t.size := by
  show ((s.data.toList.take n ++ [10] ++ t.data.toList).toArray).size = _
  rw [List.size_toArray, List.length_append, List.length_append, List.length_take, Array.length_toList, Array.length_toList]
  show min n s.size + 1 + t.size = _
  omega
theorem first_rel (s t : ByteArray) (n : Nat) (h : n ≤ s.size) (hs : n < s.size → byteAt s n = 10) : Rel n s (firstS s t n) := by
  have hl : (s.data.toList.take n).length = n := by
    rw [List.length_take, Array.length_toList]
    show min n s.size = n
    omega
  refine ⟨h, hs, by rw [firstS_size s t n h]; omega, ?_, ?_⟩
  · rw [byte_get]
    show ((((s.data.toList.take n ++ [10] ++ t.data.toList).toArray).toList[n]?).map (·.toNat)).getD 0 = 10
    rw [List.toList_toArray, List.append_assoc, List.getElem?_append_right (by omega), hl, Nat.sub_self]
    rfl
  · intro i hi
    rw [byte_get, byte_get]
    show _ = ((((s.data.toList.take n ++ [10] ++ t.data.toList).toArray).toList[i]?).map (·.toNat)).getD 0
    rw [List.toList_toArray, List.append_assoc, List.getElem?_append_left (show i < (s.data.toList.take n).length by omega), List.getElem?_take_of_lt hi]
theorem first_math (s t : ByteArray) (e : Flt) (n : Nat) (hx : lexA s = .error e) (h1 : s.size ≤ 60000) (h2 : t.size ≤ 5000) (h : n ≤ s.size) (hs : n < s.size → byteAt s n = 10 ∧ e.line ≤ lineAt s n) : lexA (firstS s t n) = .error e := by
  unfold lexA at hx ⊢
  have hz := firstS_size s t n h
  rw [if_neg (by omega)] at hx
  rw [if_neg (by omega)]
  have hr := first_rel s t n h (fun a => (hs a).1)
  have := lex_same hr (s.size + 1) ((firstS s t n).size + 1) 0 1 1 [] [] e (Nat.zero_le _) rfl (by omega) (by omega) (fun a => (hs a).2) (by rw [drop_zero]; exact hx)
  rw [drop_zero] at this
  exact this
def encB (l : List UInt8) : List Value := l.map (fun b => Value.int .u8 ((b.toNat : Nat) : Int))
theorem Tryd.infou8 : (Tryd.prog.info? 5).map (fun i => (i.zero, i.size, i.bytes)) = some (some (.int .u8 0), 1, 1) := by kernel_rfl
theorem make_bytes (w : World) : (Instr.makeSlice 32 (.int .i64 0) (.int .i64 0)).run Tryd.prog w = .ok (.slice (some ⟨w.heap.size, 0, none⟩) 0 0) (w.alloc (.cells #[] 5)) := by
  obtain ⟨i, hx, hz, hs, hb⟩ := info_parts Tryd.infou8
  have := run_make (P := Tryd.prog) w 32 5 i _ Tryd.underlying32 hx hz .i64 .i64 0 0 (by omega) (by omega) (by rw [hb]; omega) (by omega)
  rw [this, hs]
  have e : madeCells (Value.int .u8 0).cells ((0 : Int).toNat * 1) = #[] := Array.eq_empty_of_size_eq_zero (by rw [size_madeCells]; rfl)
  rw [e]
  rfl
structure BaAt (w W : World) (v : Value) (acc : List UInt8) : Prop where
  own : W.ownsRow w.heap.size 5 1 v acc.length (encB acc)
  below : Below w.heap.size w W
theorem BaAt.start (w : World) : BaAt w (w.alloc (.cells #[] 5)) (.slice (some ⟨w.heap.size, 0, none⟩) 0 0) [] :=
  ⟨⟨rfl, .inr ⟨w.heap.size, 0, #[], rfl, Nat.le_refl _, Blk.new w _ _, Nat.le_refl _, by unfold maxLen; omega, rfl, rfl⟩⟩, (Below.refl _ _).alloc (Nat.le_refl _) _⟩
theorem BaAt.more {w W W' : World} {v v' : Value} {acc : List UInt8} {x : UInt8} {o : Obj} (h : BaAt w W v acc) (hown : W'.ownsRow w.heap.size 5 1 v' (acc.length + 1) (encB acc ++ [.int .u8 ((x.toNat : Nat) : Int)])) (hg : (W.alloc o).grownBy W' v.ownBlock) : BaAt w W' v' (acc ++ [x]) := by
  refine ⟨?_, (h.below.alloc h.below.size _).grown hg (by simp; have := h.below.size; omega) (fun k e => (h.own.lt k e).1)⟩
  rw [List.length_append]
  unfold encB at hown ⊢
  rw [List.map_append]
  exact hown
theorem BaAt.many {w W W' : World} {v v' : Value} {acc l : List UInt8} (h : BaAt w W v acc) (hown : W'.ownsRow w.heap.size 5 1 v' (acc.length + l.length) (encB acc ++ encB l)) (hg : W.grownBy W' v.ownBlock) : BaAt w W' v' (acc ++ l) := by
  refine ⟨?_, h.below.grown hg h.below.size (fun k e => (h.own.lt k e).1)⟩
  rw [List.length_append]
  unfold encB at hown ⊢
  rw [List.map_append]
  exact hown
theorem news_u8 (w : World) (x : UInt8) : ∀ j u, ([.int .u8 ((x.toNat : Nat) : Int)] : List Value)[j]? = some u → (w.alloc (.cells #[.int .u8 ((x.toNat : Nat) : Int)] 5)).cell? ((⟨w.heap.size, 0, none⟩ : Addr).add j) = some u := by
  intro j u hj
  rw [Addr.add_lit, Nat.zero_add]
  exact (Blk.new w 5 #[.int .u8 ((x.toNat : Nat) : Int)]).cell (by simpa using hj)
theorem BaAt.bytes {w W : World} {v : Value} {acc : List UInt8} (h : BaAt w W v acc) (h0 : 0 < acc.length) : ∃ g cap, v = .slice (some ⟨g, 0, none⟩) acc.length cap ∧ BytesR W v ⟨acc.toArray⟩ := by
  rcases h.own.2 with ⟨_, e⟩ | ⟨g, cap, cur, e, _, hb, _⟩
  · omega
  · have hz : (⟨acc.toArray⟩ : ByteArray).size = acc.length := by show acc.toArray.size = _; simp
    subst e
    refine ⟨g, cap, rfl, .inr ⟨g, 0, cap, by rw [hz], Blk.lt (t := 5) (cs := cur) hb, ?_⟩⟩
    intro j hj
    have hj' : j < acc.length := by simpa using hj
    rw [Nat.zero_add, h.own.cellAt j (by omega)]
    show (encB acc)[j]? = _
    unfold encB
    rw [List.getElem?_map, List.getElem?_eq_getElem hj']
    simp
theorem run_append_none {P : Program} (w : World) (t ty e : TypeId) (i : TypeInfo) (ht : P.underlying t = some (.slice e)) (hi : P.info? e = some i) (a : Addr) (n cap : Nat) (hn : n ≤ cap) (c : Nat) :
    (Builtin.append_ #[t, t] ty #[.slice (some a) n cap, .slice none 0 c]).run P w = .ok (.slice (some a) n cap) w := by
  have hc := run_firstCells_none (P := P) w i.size 0 0 c
  simp [Builtin.append_, run_underlying ht, sizeOf, typeInfo, hi, Builtin.lenOf, hc, hn, storeCells]
/-- append(c, more...): bytes that were handed in, behind ours. -/
theorem wpList_append_bytes {w W : World} {ops : Array Oper} {rest : List Oper} {o : Oper} {a : Act} {Q : Exit → Act → World → Prop} (hgd : o.guard = none) (s x : Operand)
    (ho : o.op = .call { callee := .builtin .append, args := #[s, x], argTypes := #[32, 32] }) (v : Value) (acc : List UInt8) (hA : BaAt w W v acc) (h0 : 0 < acc.length) (hs : a.eval s = v) (u : Value) (t : ByteArray) (hx : a.eval x = u) (hu : BytesR W u t) (hl : acc.length + t.size ≤ 70000)
    (h : ∀ v' w', BaAt w w' v' (acc ++ t.data.toList) → wpList Tryd.prog ops Q rest (a.put o.dst v') w') : wpList Tryd.prog ops Q (o :: rest) a W := by
  obtain ⟨i0, hi, hz0, hz1, hz2⟩ := info_parts Tryd.infou8
  have key : ∀ ad c, u = .slice (some ad) t.size c → (∀ j u, (encB t.data.toList)[j]? = some u → W.cell? (ad.add j) = some u) → wpList Tryd.prog ops Q (o :: rest) a W := by
    intro ad c hu hn
    have hlen : t.data.toList.length = t.size := by rw [Array.length_toList]; rfl
    refine wpList_append_own_at W hgd s x 32 ho w.heap.size 5 i0 (.int .u8 0) 1 1 Tryd.underlying32 hi hz0 hz1 hz2 rfl (by decide) v acc.length (encB acc) hs hA.own ad t.size c (encB t.data.toList) (hx.trans hu) (by unfold encB; rw [List.length_map, hlen, Nat.mul_one]) hn ?_ (by unfold maxLen; omega) (by omega) hA.below.size ?_
    · intro y hy
      unfold encB at hy
      obtain ⟨b, _, rfl⟩ := List.mem_map.1 hy
      rfl
    · intro v' w' hown hg _ _
      exact h v' w' (hA.many (by rw [hlen]; exact hown) hg)
  rcases hu with ⟨x0, cap, rfl, rfl⟩ | ⟨g, o0, cap, rfl, _, h3⟩
  · cases x0 with
    | some ad => exact key ad cap rfl (fun j u hj => by simp [encB] at hj)
    | none =>
      rcases hA.own.2 with ⟨_, e⟩ | ⟨g, cap', cur, e, _, _, hle, _⟩
      · omega
      · subst e
        refine wpList_plain hgd fun K hK => ?_
        have hrun := run_append_none (P := Tryd.prog) W 32 o.type 5 i0 Tryd.underlying32 hi ⟨g, 0, none⟩ acc.length cap' hle cap
        unfold Oper.wp
        simp [execOp, ho, resolve, invoke, builtin, hs, hx, hrun, Result.andThen]
        exact hK _ _ (h _ _ (by simpa using hA))
  · refine key ⟨g, o0, none⟩ cap rfl ?_
    intro j u hj
    rw [Addr.add_lit]
    unfold encB at hj
    rw [List.getElem?_map, Option.map_eq_some_iff] at hj
    obtain ⟨y, hy, rfl⟩ := hj
    obtain ⟨hlt, rfl⟩ := List.getElem?_eq_some_iff.1 hy
    exact h3 j hlt
end Go.Proofs.YtkgppagpjbkhmaaDoor
