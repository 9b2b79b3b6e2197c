/- The contract of 'again'. -/
import Derived.Test.YtkgppagpjbkhmaaDoorLxJoin2
import Derived.Test.YtkgppagpjbkhmaaDoorLxPlaces
import Derived.Test.YtkgppagpjbkhmaaDoorLxApp
namespace Go.Proofs.YtkgppagpjbkhmaaDoor
open Go.RowKit Go.Shelf

theorem lexA_big {b : ByteArray} (h : 65536 < b.size) : lexA b = .error ⟨32, 1, 1⟩ := by
  unfold lexA
  rw [if_pos h]
set_option maxRecDepth 100000 in
set_option maxHeartbeats 8000000 in
theorem again_calls (gt capt gb capb base : Nat) (toks : List Tok) (b : ByteArray) (lines : Bool) (w : World) (hown : w.ownsRow base 35 5 (.slice (some ⟨gt, 0, none⟩) toks.length capt) toks.length (encT toks)) (hb : BytesR w (.slice (some ⟨gb, 0, none⟩) b.size capb) b) (hT : Tabs w) (hs : b.size ≤ 9223372036854775807) (hn : 0 < toks.length) (hA : b.size ≤ 65536 → ∃ m, lexA b = .ok m ∧ Ali lines 1 toks m) :
    Calls Tryd.prog 20 #[.slice (some ⟨gt, 0, none⟩) toks.length capt, .slice (some ⟨gb, 0, none⟩) b.size capb, .bool lines] w fun e w' => e = .returned (.bool true) ∧ Below w.heap.size w w' := by
  have HL := hid_of (Lex_calls _ _ _ hb hT hs)
  go_enter Tryd.func20, Tryd.ntmps20
  go_wp2_with fail
  refine HL.out.mono ?_
  rintro e w1 ⟨hans, hW1⟩
  clear HL
  by_cases hz : 65536 < b.size
  · rw [lexA_big hz] at hans
    have hans : e = .returned (.tuple #[.slice none 0 0, .agg (fltC ⟨32, 1, 1⟩)]) := hans
    subst hans
    have z1 : (65536 : Int) < ((b.size : Nat) : Int) := by omega
    clear hA
    simp only [fltC, fltA]
    go_wp2_with fail
    go_ret
    exact ⟨rfl, hW1.alloc hW1.size _⟩
  · obtain ⟨m, hm, hAl⟩ := hA (by omega)
    rw [hm] at hans
    obtain ⟨v', rfl, hownm⟩ := hans
    have hlen := hAl.len
    have HG := hid_of (fun i x h => hAl.get i x h)
    obtain ⟨gm, capm, rfl⟩ := tok_form hownm (by omega)
    have z1 : ¬ (65536 : Int) < ((b.size : Nat) : Int) := by omega
    rw [hlen]
    have hnn : (((toks.length : Nat) : Int) != ((toks.length : Nat) : Int)) = false := by simp
    simp only [fltC, noFlt, fltA]
    have hW2 := hW1.alloc hW1.size (.cells #[.int .i64 0, .int .i64 0, .int .i64 0] 29)
    have hBA := (Below.refl w1.heap.size w1).alloc (Nat.le_refl _) (.cells #[.int .i64 0, .int .i64 0, .int .i64 0] 29)
    have hown2 := ownsT_below hown hW2
    have hownm2 := ownsT_below hownm hBA
    have htl : toks.length ≤ 9223372036854775807 := tok_few hown2
    clear hA hm hAl hownm hBA hown hb
    go_wp2_with fail
    generalize (w1.alloc (.cells #[.int .i64 0, .int .i64 0, .int .i64 0] 29)) = W at *
    clear hnn
    go_loopw [9] (fun i wr => ∃ (k n : Nat), k ≤ toks.length ∧ i = .int .i64 ((k : Nat) : Int) ∧ wr = W.drewN n) (fun i _ => toks.length - (intOf i).toNat)
    case atStart => exact ⟨0, 0, by omega, rfl, rfl⟩
    case round =>
      obtain ⟨k, n, hk, rfl, rfl⟩ := hrel
      by_cases hlt : k < toks.length
      · obtain ⟨t, ht⟩ : ∃ t, toks[k]? = some t := ⟨_, List.getElem?_eq_getElem hlt⟩
        obtain ⟨y, hy, y1, y2, y3, y4⟩ := HG.out k t ht
        have r0 := tkn_at hown2 ht 0 (by omega)
        have r1 := tkn_at hown2 ht 1 (by omega)
        have r2 := tkn_at hown2 ht 2 (by omega)
        have q0 := tkn_at hownm2 hy 0 (by omega)
        have q1 := tkn_at hownm2 hy 1 (by omega)
        have q2 := tkn_at hownm2 hy 2 (by omega)
        have q3 := tkn_at hownm2 hy 3 (by omega)
        have q4 := tkn_at hownm2 hy 4 (by omega)
        obtain ⟨tk, tt, tv, tl, tc⟩ := t
        obtain ⟨yk, yt, yv, yl, yc⟩ := y
        simp only [] at y1 y2 y3 y4
        subst y1 y2 y3
        simp only [tokC, tokA, List.getElem?_toArray, List.getElem?_cons_zero, List.getElem?_cons_succ, Nat.add_zero] at r0 r1 r2 q0 q1 q2 q3 q4
        have k0 : (0 : Int) ≤ ((k : Nat) : Int) := by omega
        have k1 : ((k : Nat) : Int) < ((toks.length : Nat) : Int) := by omega
        have n0 : (((yk : Nat) : Int) != ((yk : Nat) : Int)) = false := by simp
        have n2 : (((yv : Nat) : Int) != ((yv : Nat) : Int)) = false := by simp
        cases lines with
        | false =>
          clear ht hy y4 q3 q4 HG
          go_wp2_with fail
          go_quiet (fail)
          go_wp2_with fail
          exact ⟨⟨k + 1, n + nq, by omega, by go_num, rfl⟩, by simp [intOf]; omega⟩
        | true =>
          obtain ⟨y5, y6⟩ := y4 rfl
          subst y5 y6
          rw [show (((1 + k : Nat)) : Int) = ((k : Nat) : Int) + 1 by omega] at q3
          have n3 : ((((k : Nat) : Int) + 1) != (((k : Nat) : Int) + 1)) = false := by simp
          have n4 : IntKind.i64.wrap (((k : Nat) : Int) + 1) = ((k : Nat) : Int) + 1 := wrap_id (by omega) (by omega)
          clear ht hy y4 HG
          go_wp2_with fail
          go_quiet (fail)
          go_wp2_with fail
          exact ⟨⟨k + 1, n + nq, by omega, by go_num, rfl⟩, by simp [intOf]; omega⟩
      · obtain rfl : k = toks.length := by omega
        go_wp2_with fail
        go_ret
        exact ⟨rfl, below_drewN hW2 _⟩
end Go.Proofs.YtkgppagpjbkhmaaDoor
