/- The statements' awake. -/
import Derived.Test.YtkgppagpjbkhmaaDoorLxName
import Derived.Test.YtkgppagpjbkhmaaDoorLxClosed
namespace Go.Proofs.YtkgppagpjbkhmaaDoor
open Go.RowKit Go.Shelf

/-- Bytes that were just written out lie as Lex wants them. -/
theorem bytes_mark (w : World) (l : List UInt8) (C : Array Value) (hC : ∀ j (hj : j < l.length), C[j]? = some (.int .u8 ((l[j].toNat : Nat) : Int))) (fr : Nat × Nat) (n : Nat) : BytesR (w.alloc (.cells C 5 fr)) (.slice (some ⟨w.heap.size, 0, none⟩) l.length n) ⟨l.toArray⟩ := by
  refine .inr ⟨w.heap.size, 0, n, by simp [ByteArray.size], by simp, fun j hj => ?_⟩
  have hj' : j < l.length := by simpa using hj
  rw [Nat.zero_add, World.cell?_alloc_mark, hC j hj']
theorem bytes_new (w : World) (l : List UInt8) (fr : Nat × Nat) (n : Nat) : BytesR (w.alloc (.cells ((l.map (fun b => Value.int .u8 ((b.toNat : Nat) : Int))).toArray) 5 fr)) (.slice (some ⟨w.heap.size, 0, none⟩) l.length n) ⟨l.toArray⟩ :=
  bytes_mark w l _ (fun j hj => by simp [hj]) fr n
theorem tok_at {w : World} {base g cap n : Nat} {l : List Tok} (h : w.ownsRow base 35 5 (.slice (some ⟨g, 0, none⟩) n cap) n (encT l)) (j : Nat) (hj : j < n * 5) {v : Value} (hv : (encT l)[j]? = some v) : w.cell? ⟨g, j, none⟩ = some v := (h.cellAt j hj).trans hv
theorem tok_form {w : World} {base n : Nat} {v : Value} {xs : List Value} (h : w.ownsRow base 35 5 v n xs) (h0 : 0 < n) : ∃ g cap, v = .slice (some ⟨g, 0, none⟩) n cap := by
  rcases h.2 with ⟨_, e⟩ | ⟨g, cap, cur, e, _⟩
  · omega
  · exact ⟨g, cap, e⟩
theorem freeze_new (w : World) (C : Array Value) (n : Nat) : (w.alloc (.cells C 5)).freeze ⟨w.heap.size, n, none⟩ 1 = w.alloc (.cells C 5 (n, n + 1)) := by
  have hm : ∀ (a : Array Obj) (x : Obj) (f : Obj → Obj), (a.push x).modify a.size f = a.push (f x) := by
    intro a x f
    apply Array.ext
    · simp
    · intro i h1 h2
      simp only [Array.getElem_modify, Array.getElem_push]
      by_cases h : a.size = i
      · subst h
        simp
      · have hi : i < a.size := by simp at h1; omega
        simp [h, hi]
  unfold World.freeze
  rw [if_neg (by decide)]
  show ({ w.alloc (.cells C 5) with heap := (w.heap.push (.cells C 5)).modify w.heap.size _ } : World) = _
  rw [hm]
  rfl
theorem conv_mark (w : World) (C : Array Value) (y z : Nat) : (convert 32 32 (.slice (some ⟨w.heap.size, 0, none⟩) y z)).run Tryd.prog (w.alloc (.cells C 5)) = .ok (.slice (some ⟨w.heap.size, 0, none⟩) y z) (w.alloc (.cells C 5 (C.size, C.size + 1))) := by
  have hsh : (w.alloc (.cells C 5)).shape? w.heap.size = some (5, C.size) := by
    have : (w.alloc (.cells C 5)).heap[w.heap.size]? = some (.cells C 5) := by
      show (w.heap.push (.cells C 5))[w.heap.size]? = _
      simp
    unfold World.shape?
    rw [this]
  simp [convert, run_underlying Tryd.underlying32, run_underlying Tryd.underlying5, markStringish, hsh]
  exact freeze_new w C C.size
theorem name_1 : isNameB ⟨#[95]⟩ = true := by kernel_rfl
theorem name_2 : isNameB ⟨#[115, 99]⟩ = false := by kernel_rfl
set_option maxRecDepth 100000 in
set_option maxHeartbeats 4000000 in
theorem awake_calls (w : World) (hT : Tabs w) : Calls Tryd.prog 9 #[] w fun e w' => e = .returned (.bool true) ∧ Below w.heap.size w w' := by
  have hb1 : BytesR (w.alloc (.cells #[.int .u8 108, .int .u8 101, .int .u8 116, .int .u8 32, .int .u8 206, .int .u8 177, .int .u8 49, .int .u8 32, .int .u8 61, .int .u8 32, .int .u8 48, .int .u8 120, .int .u8 49, .int .u8 70, .int .u8 59] 5 (15, 16))) (.slice (some ⟨w.heap.size, 0, none⟩) 15 15) ⟨#[108, 101, 116, 32, 206, 177, 49, 32, 61, 32, 48, 120, 49, 70, 59]⟩ := bytes_new w [108, 101, 116, 32, 206, 177, 49, 32, 61, 32, 48, 120, 49, 70, 59] (15, 16) 15
  have hB1 := (Below.refl w.heap.size w).alloc (Nat.le_refl _) (.cells #[.int .u8 108, .int .u8 101, .int .u8 116, .int .u8 32, .int .u8 206, .int .u8 177, .int .u8 49, .int .u8 32, .int .u8 61, .int .u8 32, .int .u8 48, .int .u8 120, .int .u8 49, .int .u8 70, .int .u8 59] 5 (15, 16))
  have hL1 := Lex_calls _ _ _ hb1 (hT.below hB1) (by decide)
  rw [lex_2] at hL1
  have HL1 := hid_of hL1
  clear hL1 hb1
  have hcs := conv_mark w
  go_enter Tryd.func9, Tryd.ntmps9
  go_wp2_with fail
  refine HL1.out.mono ?_
  rintro e w1 ⟨⟨v, rfl, hown⟩, hBx⟩
  have hW1 : Below w.heap.size w w1 := below_step hB1 hB1.size hBx
  obtain ⟨g, cap, rfl⟩ := tok_form hown (by decide)
  have hown' := owns_but (c := 0) hown (But.of_below ((Below.refl w1.heap.size w1).alloc (Nat.le_refl _) (.cells #[.int .i64 0, .int .i64 0, .int .i64 0] 29))) (by simp)
  have k5 := tok_at hown' 5 (by decide) (v := .int .i64 1) rfl
  have k6 := tok_at hown' 6 (by decide) (v := .string ⟨#[206, 177, 49]⟩) rfl
  have k9 := tok_at hown' 9 (by decide) (v := .int .i64 5) rfl
  have k17 := tok_at hown' 17 (by decide) (v := .int .u64 31) rfl
  have k29 := tok_at hown' 29 (by decide) (v := .int .i64 15) rfl
  simp only [fltC, noFlt, fltA, List.length_cons, List.length_nil]
  clear HL1 hcs
  have hcs2 := conv_mark (w1.alloc (.cells #[.int .i64 0, .int .i64 0, .int .i64 0] 29))
  simp only [World.size_alloc] at hcs2
  have hB2 := ((Below.refl w1.heap.size w1).alloc (Nat.le_refl _) (.cells #[.int .i64 0, .int .i64 0, .int .i64 0] 29)).alloc (by simp) (.cells #[.int .u8 97, .int .u8 32, .int .u8 36] 5 (3, 4))
  have hb2 : BytesR ((w1.alloc (.cells #[.int .i64 0, .int .i64 0, .int .i64 0] 29)).alloc (.cells #[.int .u8 97, .int .u8 32, .int .u8 36] 5 (3, 4))) (.slice (some ⟨w1.heap.size + 1, 0, none⟩) 3 3) ⟨#[97, 32, 36]⟩ := by
    have := bytes_new (w1.alloc (.cells #[.int .i64 0, .int .i64 0, .int .i64 0] 29)) [97, 32, 36] (3, 4) 3
    rwa [World.size_alloc] at this
  have hW2 := below_step hW1 hW1.size hB2
  have hL2 := Lex_calls _ _ _ hb2 (hT.below hW2) (by decide)
  rw [lex_1] at hL2
  have HL2 := hid_of hL2
  have hF2 : Blk ((w1.alloc (.cells #[.int .i64 0, .int .i64 0, .int .i64 0] 29)).alloc (.cells #[.int .u8 97, .int .u8 32, .int .u8 36] 5 (3, 4))) w1.heap.size 29 (fltC noFlt) := (Blk.new w1 _ _).alloc _
  clear hL2 hb2
  go_wp2_with fail
  refine HL2.out.mono ?_
  rintro e w2 ⟨rfl, hBy⟩
  have hF3 := hF2.of_below hBy
  have hW3 := below_step hW2 hW2.size hBy
  clear HL2 hF2 hcs2 k5 k6 k9 k17 k29
  have hn1 := fun W => IsName_calls ⟨#[95]⟩ W (by decide)
  rw [name_1] at hn1
  have hn2 := fun W => IsName_calls ⟨#[115, 99]⟩ W (by decide)
  rw [name_2] at hn2
  have hW4 : Below w.heap.size w (w2.setRow w1.heap.size (fltC ⟨20, 1, 3⟩)) := ⟨hW3.os, hW3.tape, hW3.output, by rw [setRow_size]; exact hW3.size, fun k hk => (setRow_other w2 w1.heap.size k (fltC ⟨20, 1, 3⟩) (by have := hW1.size; omega)).trans (hW3.block k hk)⟩
  go_wp2_with (first | refine wpList_store_row rfl 29 _ _ rfl w1.heap.size (fltC ⟨20, 1, 3⟩) rfl rfl 29 _ hF3 (by kernel_rfl) rfl (all_flt _) ?_ | refine wpList_load_row rfl 29 _ rfl w1.heap.size rfl 29 #[.int .i64 20, .int .i64 1, .int .i64 3] (0, 0) _ (hF3.row (fltC ⟨20, 1, 3⟩)) Tryd.underlying29 rfl (by kernel_rfl) ?_)
  refine (hn1 _).mono ?_
  rintro e w3 ⟨rfl, hB3⟩
  go_wp2_with fail
  refine (hn2 _).mono ?_
  rintro e w4 ⟨rfl, hB4⟩
  go_wp2_with fail
  go_ret
  exact ⟨rfl, below_step (below_step hW4 hW4.size hB3) (Nat.le_trans hW4.size hB3.size) hB4⟩
end Go.Proofs.YtkgppagpjbkhmaaDoor
