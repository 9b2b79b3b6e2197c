/- A list of bytes that was handed in. -/
import Derived.Test.YtkgppagpjbkhmaaDoorLxLaid
import Derived.Test.YtkgppagpjbkhmaaDoorLxLex
import Derived.Deep.Slices
namespace Go.Proofs.YtkgppagpjbkhmaaDoor
open Go.ChangeShapes Go.WideShapes Go.ChangeAt Go.RowKit Go.Shelf

theorem cellsU8 : Tryd.prog.cellsOf 5 = 1 := by kernel_rfl
theorem bytesU8 : Tryd.prog.bytesOf 5 = 1 := by kernel_rfl
theorem wf_u8 {x : Int} (h : (Lit.int .u8 x).wf = true) : 0 ≤ x ∧ x < 256 := by
  have h1 : (decide (IntKind.u8.min ≤ x) && decide (x ≤ IntKind.u8.max)) = true := h
  have e1 : IntKind.u8.min = 0 := by decide
  have e2 : IntKind.u8.max = 255 := by decide
  rw [e1, e2, Bool.and_eq_true, decide_eq_true_eq, decide_eq_true_eq] at h1
  omega
set_option maxRecDepth 100000 in
theorem arg_bytes {H : Type} {enc : TypeId × Value → H} {W : World} {base : Nat} {v : Value} {d : DataW H} {ps : List MemPlace} (hval : Value.okWide Tryd.prog W .any base 32 v)
    (h : DataW.Trod enc Tryd.prog W 0 (fun _ => true) true 32 v d ps) (hz : ∀ k ∈ d.weights Tryd.prog 32, k ≤ reachBytes) : ∃ x s cap, v = .slice x s.size cap ∧ BytesR W v s ∧ s.size ≤ cap ∧ s.size ≤ 140737488351232 := by
  obtain ⟨a0, len0, cap0, rfl⟩ := okWide_slice Tryd.underlying32 hval
  obtain ⟨fuel, hf⟩ := h
  rcases Deep.open_slice1 Tryd.underlying32 cellsU8 hf with ⟨hc, _⟩ | ⟨a, len, cap, m, n, V, D, Pl, hc, _, hl, hm, hmm, hx, hall⟩
  · simp [Value.cells] at hc
    obtain ⟨rfl, rfl, rfl⟩ := hc
    exact ⟨none, ⟨#[]⟩, _, rfl, .inl ⟨_, _, rfl, rfl⟩, Nat.zero_le _, Nat.zero_le _⟩
  · simp [Value.cells] at hc
    obtain ⟨rfl, rfl, rfl⟩ := hc
    simp only [if_true] at hmm
    subst hmm
    by_cases h0 : len0 = 0
    · subst h0
      exact ⟨_, ⟨#[]⟩, _, rfl, .inl ⟨_, _, rfl, rfl⟩, Nat.zero_le _, Nat.zero_le _⟩
    · have hpos : 0 < m := by omega
      obtain ⟨b, o, sp⟩ := a
      have hx0 := (hall 0 hpos).1
      have hsp : sp = none := by
        cases sp with
        | none => rfl
        | some k =>
          simp only [Addr.add, if_true, World.cell?] at hx0
          split at hx0 <;> simp at hx0
      subst hsp
      have hb : b < W.heap.size := World.block_lt_of_cell? W _ hx0
      have hint : ∀ i, i < m → ∃ u : UInt8, V i = .int .u8 ((u.toNat : Nat) : Int) := by
        intro i hi
        obtain ⟨x, h1, _, h3⟩ := DataW.trod_int Tryd.underlying5 (hall i hi).2
        simp only [List.cons.injEq, and_true] at h1
        obtain ⟨g1, g2⟩ := wf_u8 h3
        refine ⟨UInt8.ofNat x.toNat, ?_⟩
        rw [h1, UInt8.toNat_ofNat_of_lt' (by omega : x.toNat < 256)]
        congr 1
        omega
      have hadd : ∀ k, (⟨b, o, none⟩ : Addr).add k = ⟨b, o + k, none⟩ := by
        intro k
        unfold Addr.add
        split
        · rename_i e; subst e; rfl
        · rfl
      have hd : d = .slice ((List.range len0).map D) ((List.range (m - len0)).map fun j => D (len0 + j)) := congrArg Prod.fst hx
      have hw := hz (((List.range len0).map D).length * 1 + ((List.range (m - len0)).map fun j => D (len0 + j)).length * 1) (by
        rw [hd]
        simp only [DataW.weights, Tryd.underlying32]
        rw [bytesU8, Nat.add_mul]
        exact List.mem_cons_self)
      let u : Nat → UInt8 := fun i => if hi : i < m then Classical.choose (hint i hi) else 0
      have hu : ∀ i (hi : i < m), V i = .int .u8 (((u i).toNat : Nat) : Int) := by
        intro i hi
        show V i = .int .u8 (((if hi : i < m then Classical.choose (hint i hi) else 0 : UInt8).toNat : Nat) : Int)
        rw [dif_pos hi]
        exact Classical.choose_spec (hint i hi)
      have hsz : (⟨((List.range len0).map u).toArray⟩ : ByteArray).size = len0 := by
        show ((List.range len0).map u).toArray.size = len0
        simp
      refine ⟨_, ⟨((List.range len0).map u).toArray⟩, m, by rw [hsz], .inr ⟨b, o, m, by rw [hsz], hb, ?_⟩, by rw [hsz]; exact hl, ?_⟩
      · intro i hi
        have hi' : i < len0 := by simpa using hi
        have h1 := (hall i (by omega)).1
        rw [hadd, hu i (by omega)] at h1
        rw [h1]
        simp
      · rw [hsz]
        simp only [reachBytes, List.length_map, List.length_range] at hw
        omega
end Go.Proofs.YtkgppagpjbkhmaaDoor
