/- The statements' own decodes: of words with all bits of one field, Decode is the document's. -/
import Derived.Test.YtbggcofnopaloaaDoorJ12
import Derived.Test.YtbggcofnopaloaaDoorJ04
import Derived.Great.Frames
namespace Go.Proofs.YtbggcofnopaloaaDoor
open Go.RowKit Sx
def letC : Array Value := #[.int .u8 100, .int .u8 110, .int .u8 109, .int .u8 105, .int .u8 99, .int .u8 107, .int .u8 114, .int .u8 115]
structure LtR (b : Nat) (w0 w : World) : Prop where
  a : Blk w b 61 letC
  tb : Tb w
  bel : Below b w0 w
theorem LtR.step {b : Nat} {w0 w w' : World} (h : LtR b w0 w) (hb : Below w.heap.size w w') : LtR b w0 w' := ⟨h.a.of_below hb, h.tb.step hb, h.bel.trans (hb.mono (Nat.le_of_lt h.a.lt))⟩
theorem LtR.drewN {b : Nat} {w0 w : World} (h : LtR b w0 w) (n : Nat) : LtR b w0 (w.drewN n) := h.step (below_drewN (Below.refl _ _) _)
theorem LtR.new (w : World) (hT : Tb w) : LtR w.heap.size w (w.alloc (.cells #[.int .u8 100, .int .u8 110, .int .u8 109, .int .u8 105, .int .u8 99, .int .u8 107, .int .u8 114, .int .u8 115] 61)) := ⟨Blk.new w _ _, hT.step ((Below.refl _ _).alloc (Nat.le_refl _) _), (Below.refl _ _).alloc (Nat.le_refl _) _⟩
theorem LtR.cell {b : Nat} {w0 w : World} (h : LtR b w0 w) (n : Nat) (hn : n < 8) : ∃ l : Nat, w.cell? ⟨b, n, none⟩ = some (.int .u8 (l : Int)) := by
  have : ∀ n : Nat, n < 8 → ∃ l : Nat, letC[n]? = some (.int .u8 (l : Int)) := fun n hn => by
    match n, hn with
    | 0, _ => exact ⟨100, rfl⟩
    | 1, _ => exact ⟨110, rfl⟩
    | 2, _ => exact ⟨109, rfl⟩
    | 3, _ => exact ⟨105, rfl⟩
    | 4, _ => exact ⟨99, rfl⟩
    | 5, _ => exact ⟨107, rfl⟩
    | 6, _ => exact ⟨114, rfl⟩
    | 7, _ => exact ⟨115, rfl⟩
    | n + 8, h => exact absurd h (by omega)
  obtain ⟨l, hl⟩ := this n hn
  exact ⟨l, h.a.cell hl⟩
theorem orb_val (x j : Nat) (hx : x < 4294967296) (hj : j < 32) : bits BinOp.or IntKind.u32 (x : Int) (2 ^ j % 4294967296) = ((x ||| 2 ^ j : Nat) : Int) ∧ (x ||| 2 ^ j) < 4294967296 := by
  have h2 : 2 ^ j < 2 ^ 32 := Nat.pow_lt_pow_right (by decide) hj
  have e : (2 : Int) ^ j % 4294967296 = ((2 ^ j : Nat) : Int) := by
    have e1 : (2 : Int) ^ j = ((2 ^ j : Nat) : Int) := by push_cast; rfl
    rw [e1]
    generalize 2 ^ j = y at *
    omega
  rw [e]
  exact ⟨or_u32 x (2 ^ j) hx h2, Nat.or_lt_two_pow hx h2⟩
theorem both (x : Nat) (hx : x < 4294967296) : ∃ (i : Ins) (ok : Bool) (c : Int), ((c == 0) = ok) ∧ (∀ W, Tb W → Calls Tryd.prog 11 #[.int .u32 (x : Int)] W fun e w' => e = .returned (.tuple #[.agg (insC i), .int .i64 c]) ∧ Below W.heap.size W w') ∧
    (∀ W, Calls Tryd.prog 20 #[.int .u32 (x : Int)] W fun e w' => e = .returned (.tuple #[.agg (insC i), .bool ok]) ∧ Below W.heap.size W w') := by
  refine ⟨(decA x).getD zeroI, (decA x).isSome, if (decA x).isSome then 0 else 7, ?_, fun W h => ?_, fun W => ?_⟩
  · cases (decA x).isSome <;> rfl
  · have := cdDecode_calls x W hx h
    unfold DecE at this
    exact this
  · have := r14Decode_calls x W hx
    unfold DecR at this
    exact this
theorem row_newR (w : World) (j z : Array Value) : Blk ((w.alloc (.cells z 34)).setRow w.heap.size j) w.heap.size 34 j ∧ Below w.heap.size w ((w.alloc (.cells z 34)).setRow w.heap.size j) :=
  ⟨(Blk.new w 34 z).setRow' j, ((Below.refl _ _).alloc (Nat.le_refl _) _).trans (below_row _ (Nat.le_refl _))⟩
set_option maxRecDepth 100000 in
set_option maxHeartbeats 8000000 in
theorem l14decodes_calls (op : Nat) (w : World) (hT : Tb w) (h1 : 1 ≤ op) (h2 : op < 48) :
    Calls Tryd.prog 14 #[.int .i64 op] w fun e w' => e = .returned (.bool true) ∧ Below w.heap.size w w' := by
  have HR := hid_of (LtR.new w hT)
  have hc := fun W => r14Pattern_calls op W h1 h2
  have hs := patB_size op h1 h2
  have HS := hid_of hs
  have HG := hid_of (patB_at op)
  have HG2 : Hid (∀ k, ∃ c, sg op k = c) := fun k => ⟨_, rfl⟩
  have hca := l14Api_calls
  unfold insV at hca
  clear hs hT h1 h2
  generalize patB op = s at *
  go_enter Tryd.func14, Tryd.ntmps14
  go_upto_region 4 with (go_at_call 26; refine (hc _).mono ?_; rintro e w3 ⟨rfl, hB3⟩; have HR3 := hid_of (HR.out.step hB3); clear hB3)
  clear hc
  go_loopw [5] (fun i wr => ∃ n : Nat, n ≤ 8 ∧ i = .int .i64 n ∧ Hid (LtR w.heap.size w wr)) (fun i _ => 8 - (intOf i).toNat)
  case atStart => exact ⟨0, by omega, rfl, HR3⟩
  case round =>
    obtain ⟨n, hn, rfl, HRr⟩ := hrel
    by_cases h8 : n < 8
    · go_upto_region 8 with fail
      go_loopw [6, 7] (fun a k wr => ∃ (x m : Nat), x < 4294967296 ∧ m ≤ 32 ∧ a = .int .u32 x ∧ k = .int .i64 m ∧ Hid (LtR w.heap.size w wr)) (fun _ k _ => 32 - (intOf k).toNat)
      case atStart => exact ⟨0, 0, by omega, by omega, rfl, rfl, HRr⟩
      case round =>
        obtain ⟨x, k, hx, hk, rfl, rfl, HRk⟩ := hrel
        by_cases h32 : k < 32
        · obtain ⟨l, hl⟩ := HRk.out.cell n h8
          have hks : k < s.size := by have := HS.out; omega
          have hgk := HG.out k hks
          have hsm : s.size ≤ 9223372036854775807 := by have := HS.out; omega
          generalize sg op k = c at *
          obtain ⟨j, hj⟩ : ∃ j : Nat, j + k = 31 := ⟨31 - k, by omega⟩
          have hkj : (31 : Int) - (k : Int) = (j : Int) := by omega
          have hjb : j < 32 := by omega
          obtain ⟨hov, hol⟩ := orb_val x j hx hjb
          have HOL := hid_of hol
          generalize (x ||| 2 ^ j) = x2 at *
          clear hj hol
          by_cases h49 : c = 49
          · have x1 : ((c : Int) == 49) = true := by simp [h49]
            clear h49
            go_wp2_with fail
            go_quiet (fail)
            go_wp2_with fail
            exact ⟨⟨x2, k + 1, HOL.out, by omega, by first | rfl | rw [hov], by go_num, hid_of (HRk.out.drewN _)⟩, by simp [intOf]; omega⟩
          · have x1 : ((c : Int) == 49) = false := by simp; omega
            clear h49
            by_cases hcl : c = l
            · have x2 : ((c : Int) == (l : Int)) = true := by simp [hcl]
              clear hcl
              go_wp2_with fail
              go_quiet (fail)
              go_wp2_with fail
              exact ⟨⟨_, k + 1, HOL.out, by omega, by first | rfl | rw [hov], by go_num, hid_of (HRk.out.drewN _)⟩, by simp [intOf]; omega⟩
            · have x2 : ((c : Int) == (l : Int)) = false := by simp; omega
              clear hcl
              go_wp2_with fail
              go_quiet (fail)
              go_wp2_with fail
              exact ⟨⟨x, k + 1, hx, by omega, rfl, by go_num, hid_of (HRk.out.drewN _)⟩, by simp [intOf]; omega⟩
        · obtain rfl : k = 32 := by omega
          obtain ⟨i, ok, cc, hcc, hcA, hcB⟩ := both x hx
          have hall := insC_all i
          have hcC := hca i
          clear hx hk
          obtain ⟨op2, rd, rn, rm, imm, cond⟩ := i
          have HQ1 : Hid (∀ W, (Op.equalIn 10000 25 (.agg #[.int .i64 op2, .int .i64 rd, .int .i64 rn, .int .i64 rm, .int .i64 imm, .int .i64 cond]) (.agg #[.int .i64 op2, .int .i64 rd, .int .i64 rn, .int .i64 rm, .int .i64 imm, .int .i64 cond])).run Tryd.prog W = .ok true W) := fun W => (ins_eqIn W ⟨op2, rd, rn, rm, imm, cond⟩ ⟨op2, rd, rn, rm, imm, cond⟩).trans (by rw [insEq_self])
          dsimp only at hcC
          go_upto_region 13 with (first | (go_at_call 11; refine (hcA _ HRk.out.tb).mono ?_; rintro e w4 ⟨rfl, hB4⟩; have HR4 := hid_of (HRk.out.step hB4); clear hB4) | (refine wpList_store_row rfl 25 _ _ rfl w4.heap.size (insC ⟨op2, rd, rn, rm, imm, cond⟩) rfl rfl 25 (insC zeroI) (Blk.new w4 _ _) (by kernel_rfl) rfl hall ?_))
          obtain ⟨hb5, hB5⟩ := row_new w4 (insC ⟨op2, rd, rn, rm, imm, cond⟩) (insC zeroI)
          have HR5 := hid_of (HR4.out.step hB5)
          have HB5 := hid_of hb5
          clear hb5 hB5
          generalize hw : (w4.alloc (.cells (insC zeroI) 25)).setRow w4.heap.size (insC ⟨op2, rd, rn, rm, imm, cond⟩) = w5 at *
          have hw' : (w4.alloc (.cells #[.int .i64 0, .int .i64 0, .int .i64 0, .int .i64 0, .int .i64 0, .int .i64 0] 25)).setRow w4.heap.size (insC ⟨op2, rd, rn, rm, imm, cond⟩) = w5 := hw
          have hw'' : (w4.alloc (.cells #[.int .i64 0, .int .i64 0, .int .i64 0, .int .i64 0, .int .i64 0, .int .i64 0] 25)).setRow w4.heap.size #[.int .i64 op2, .int .i64 rd, .int .i64 rn, .int .i64 rm, .int .i64 imm, .int .i64 cond] = w5 := hw
          try first | rw [hw'] | rw [hw'']
          clear hw hw' hw''
          go_upto_region 14 with (first | (go_at_call 20; refine (hcB _).mono ?_; rintro e w6 ⟨rfl, hB6⟩; have HR6 := hid_of (HR5.out.step hB6); have HB6 := hid_of (HB5.out.of_below hB6); clear hB6) | (refine wpList_store_row rfl 34 _ _ rfl w6.heap.size (insC ⟨op2, rd, rn, rm, imm, cond⟩) rfl rfl 34 (insC zeroI) (Blk.new w6 _ _) (by kernel_rfl) rfl hall ?_))
          obtain ⟨hb7, hB7⟩ := row_newR w6 (insC ⟨op2, rd, rn, rm, imm, cond⟩) (insC zeroI)
          have hW7 : TwoC w.heap.size w4.heap.size w6.heap.size w ⟨op2, rd, rn, rm, imm, cond⟩ ((w6.alloc (.cells (insC zeroI) 34)).setRow w6.heap.size (insC ⟨op2, rd, rn, rm, imm, cond⟩)) := ⟨HB6.out.of_below hB7, hb7, HR6.out.tb.step hB7, HR6.out.bel.trans (hB7.mono (Nat.le_of_lt HR6.out.a.lt)), Nat.le_trans (Nat.le_of_lt HR6.out.a.lt) hB7.size⟩
          have HR7 := hid_of (HR6.out.step hB7)
          clear hb7 hB7
          generalize hw : (w6.alloc (.cells (insC zeroI) 34)).setRow w6.heap.size (insC ⟨op2, rd, rn, rm, imm, cond⟩) = w7 at *
          have hw' : (w6.alloc (.cells #[.int .i64 0, .int .i64 0, .int .i64 0, .int .i64 0, .int .i64 0, .int .i64 0] 34)).setRow w6.heap.size (insC ⟨op2, rd, rn, rm, imm, cond⟩) = w7 := hw
          have hw'' : (w6.alloc (.cells #[.int .i64 0, .int .i64 0, .int .i64 0, .int .i64 0, .int .i64 0, .int .i64 0] 34)).setRow w6.heap.size #[.int .i64 op2, .int .i64 rd, .int .i64 rn, .int .i64 rm, .int .i64 imm, .int .i64 cond] = w7 := hw
          try first | rw [hw'] | rw [hw'']
          clear hw hw' hw''
          have hS7 := hW7.cells
          have HW7 := hid_of hW7
          clear hW7
          have hq1 := HQ1.out
          have hok : (ok != ok) = false := by simp
          cases ok
          all_goals
            go_region_held3 (fun W => W.cell? ⟨w4.heap.size, 0, none⟩ = some (.int .i64 op2) ∧ W.cell? ⟨w4.heap.size, 1, none⟩ = some (.int .i64 rd) ∧ W.cell? ⟨w4.heap.size, 2, none⟩ = some (.int .i64 rn) ∧ W.cell? ⟨w4.heap.size, 3, none⟩ = some (.int .i64 rm) ∧ W.cell? ⟨w4.heap.size, 4, none⟩ = some (.int .i64 imm) ∧ W.cell? ⟨w4.heap.size, 5, none⟩ = some (.int .i64 cond) ∧ W.cell? ⟨w6.heap.size, 0, none⟩ = some (.int .i64 op2) ∧ W.cell? ⟨w6.heap.size, 1, none⟩ = some (.int .i64 rd) ∧ W.cell? ⟨w6.heap.size, 2, none⟩ = some (.int .i64 rn) ∧ W.cell? ⟨w6.heap.size, 3, none⟩ = some (.int .i64 rm) ∧ W.cell? ⟨w6.heap.size, 4, none⟩ = some (.int .i64 imm) ∧ W.cell? ⟨w6.heap.size, 5, none⟩ = some (.int .i64 cond)) (first | assumption | exact hS7 | exact hS8) (first | (go_at_call 21; refine (hcC _).mono ?_; rintro e w8 ⟨rfl, hB8⟩; have hR8 := (HR7.out.step (Below.refl _ _).drew).step hB8; have hS8 := ((HW7.out.drew).step hB8).cells))
            have HR8 := hid_of hR8
            clear hS7 hS8 hB8 hR8
            go_wp2_with fail
            exact ⟨⟨n + 1, by omega, by go_num, HR8⟩, by simp [intOf]; omega⟩
    · obtain rfl : n = 8 := by omega
      go_wp2_with fail
      go_ret
      exact ⟨rfl, HRr.out.bel⟩
end Go.Proofs.YtbggcofnopaloaaDoor
namespace Go.Proofs.YtbggcofnopaloaaDoor
open Go.RowKit Sx
theorem put_size (a : Act) (d : Nat) (v : Value) : (a.put (some d) v).tmps.size = a.tmps.size := by simp [Act.put]
theorem eval_pt {a : Act} {d : Nat} (v : Value) (j : Nat) (h : d < a.tmps.size) : (a.put (some d) v).eval (.tmp j) = if d = j then v else a.eval (.tmp j) := by
  by_cases e : d = j
  · subst e; rw [if_pos rfl, Act.eval_put_same a d v h]
  · rw [if_neg e, Act.eval_put_ne a d j v e]
theorem act_eq {a b : Act} (hs : a.tmps.size = b.tmps.size) (hd : a.defers = b.defers) (he : ∀ d, a.eval (.tmp d) = b.eval (.tmp d)) : a = b := by
  obtain ⟨t, f⟩ := a
  obtain ⟨t', f'⟩ := b
  dsimp only at hs hd
  subst hd
  have : t = t' := by
    refine Array.ext hs (fun k h1 h2 => ?_)
    have := he k
    simpa [Act.eval, Array.getD, h1, h2] using this
  rw [this]
def upA (a : Act) (l : List (Nat × Value)) : Act := l.foldl (fun a p => a.put (some p.1) p.2) a
theorem upA_size : ∀ (l : List (Nat × Value)) (a : Act), (upA a l).tmps.size = a.tmps.size
  | [], _ => rfl
  | p :: l, a => (upA_size l (a.put (some p.1) p.2)).trans (put_size _ _ _)
theorem upA_df : ∀ (l : List (Nat × Value)) (a : Act), (upA a l).defers = a.defers
  | [], _ => rfl
  | p :: l, a => (upA_df l (a.put (some p.1) p.2)).trans rfl
theorem upA_out {d : Nat} : ∀ (l : List (Nat × Value)) (a : Act), (∀ p ∈ l, p.1 ≠ d) → (upA a l).eval (.tmp d) = a.eval (.tmp d)
  | [], _, _ => rfl
  | p :: l, a, h => (upA_out l (a.put (some p.1) p.2) (fun q hq => h q (List.mem_cons_of_mem _ hq))).trans (Act.eval_put_ne a p.1 d p.2 (h p List.mem_cons_self))
theorem upA_in {x : Nat × Value} : ∀ (l : List (Nat × Value)) (a : Act), (l.map (·.1)).Nodup → (∀ p ∈ l, p.1 < a.tmps.size) → x ∈ l → (upA a l).eval (.tmp x.1) = x.2
  | [], _, _, _, h => by cases h
  | p :: l, a, hn, hs, h => by
    have hn2 := List.nodup_cons.1 hn
    rcases List.mem_cons.1 h with rfl | h
    · refine (upA_out l (a.put (some x.1) x.2) (fun q hq e => hn2.1 ?_)).trans (Act.eval_put_same a x.1 x.2 (hs x List.mem_cons_self))
      show x.1 ∈ l.map (·.1)
      rw [← e]
      exact List.mem_map_of_mem hq
    · exact upA_in l (a.put (some p.1) p.2) hn2.2 (fun q hq => by rw [put_size]; exact hs q (List.mem_cons_of_mem _ hq)) h
theorem wpOp_yes' {P : Program} {ops : Array Oper} {Q : Exit → Act → World → Prop} {i : Nat} {o : Oper} {a : Act} {w : World} (ho : ops[i]? = some o) {K : Act → World → Prop} (hw : o.guard = none) (h : o.wp P a w K Q) : wpOp P ops Q i K a w := by
  unfold wpOp
  rw [ho]
  dsimp only
  rw [if_pos (by unfold Region.wanted; rw [hw])]
  exact .inl h
theorem wp_value' {P : Program} {a : Act} {w w' : World} {Q : Exit → Act → World → Prop} {K : Act → World → Prop} {o : Oper} {v : Value} (h : (execOp a.eval o).run P w = .ok (.value v) w') (hK : K (a.put o.dst v) w') : o.wp P a w K Q := by
  unfold Oper.wp
  rw [h]
  exact hK
theorem al_ri {a : Act} {w : World} {dst : Option Tmp} {ty : TypeId} {pos : String} {af : Array Edge} {gd : Option (Nat × Bool)} : (execOp a.eval ⟨dst, .alloc 34, ty, pos, af, gd⟩).run Tryd.prog w = .ok (.value (.pointer (some ⟨w.heap.size, 0, none⟩))) (w.alloc (.cells (insC zeroI) 34)) := by kernel_rfl
structure Cp (i : Ins) (a1 : Act) (w1 : World) (q : Nat → Nat) (L : Nat → Bool) (a : Act) (w : World) : Prop where
  low : Below w1.heap.size w1 w
  sz : a.tmps.size = 89
  df : a.defers = a1.defers
  rest : ∀ d : Nat, (∀ j : Nat, j < 5 → d ≠ 26 + j ∧ d ≠ 7 + j) → a.eval (.tmp d) = a1.eval (.tmp d)
  ld : ∀ j, j < 5 → L j = true → a.eval (.tmp (26 + j)) = .agg (insC i)
  al : ∀ j, j < 5 → L (5 + j) = true → a.eval (.tmp (7 + j)) = .pointer (some ⟨q j, 0, none⟩) ∧ w1.heap.size ≤ q j ∧ ∃ k : Ins, Blk w (q j) 34 (insC k) ∧ (L (10 + j) = true → k = i)
  ne : ∀ j k, j < 5 → k < 5 → j ≠ k → L (5 + j) = true → L (5 + k) = true → q j ≠ q k
structure CpOps (ops : Array Oper) (j : Nat) : Prop where
  o1 : ∃ ty pos af, ops[j]? = some ⟨some (26 + j), .load 34 (.tmp 5), ty, pos, af, none⟩
  o2 : ∃ ty pos af, ops[5 + j]? = some ⟨some (7 + j), .alloc 34, ty, pos, af, none⟩
  o3 : ∃ ty pos af, ops[10 + j]? = some ⟨none, .store 34 (.tmp (7 + j)) (.tmp (26 + j)), ty, pos, af, none⟩ ∧ (af.toList.any fun e => e.on == j && Region.binds .any e) = true ∧ (af.toList.any fun e => e.on == 5 + j && Region.binds .any e) = true
theorem Cp.load {i : Ins} {a1 : Act} {w1 : World} {q : Nat → Nat} {L : Nat → Bool} {a : Act} {w : World} (h : Cp i a1 w1 q L a w) (j : Nat) (hj : j < 5) :
    Cp i a1 w1 q (fun x => x == j || L x) (a.put (some (26 + j)) (.agg (insC i))) w := by
  have hs : 26 + j < a.tmps.size := by rw [h.sz]; omega
  refine ⟨h.low, by rw [put_size, h.sz], h.df, fun d hd => ?_, fun k hk hL => ?_, fun k hk hL => ?_, fun k l hk hl hkl h1 h2 => ?_⟩
  · rw [eval_pt _ _ hs, if_neg (fun e => (hd j hj).1 e.symm), h.rest d hd]
  · rw [eval_pt _ _ hs]
    by_cases e : 26 + j = 26 + k
    · rw [if_pos e]
    · rw [if_neg e]
      refine h.ld k hk ?_
      have e2 : (k == j) = false := beq_eq_false_iff_ne.2 (by omega)
      simpa [e2] using hL
  · have e2 : (5 + k == j) = false := beq_eq_false_iff_ne.2 (by omega)
    have e3 : (10 + k == j) = false := beq_eq_false_iff_ne.2 (by omega)
    rw [eval_pt _ _ hs, if_neg (by omega)]
    simp only [e2, Bool.false_or] at hL
    simp only [e3, Bool.false_or]
    exact h.al k hk hL
  · have e2 : (5 + k == j) = false := beq_eq_false_iff_ne.2 (by omega)
    have e3 : (5 + l == j) = false := beq_eq_false_iff_ne.2 (by omega)
    simp only [e2, e3, Bool.false_or] at h1 h2
    exact h.ne k l hk hl hkl h1 h2
theorem Cp.box {i : Ins} {a1 : Act} {w1 : World} {q : Nat → Nat} {L : Nat → Bool} {a : Act} {w : World} (h : Cp i a1 w1 q L a w) (j : Nat) (hj : j < 5) (hn : L (10 + j) = false) :
    Cp i a1 w1 (fun k => if k = j then w.heap.size else q k) (fun x => x == 5 + j || L x) (a.put (some (7 + j)) (.pointer (some ⟨w.heap.size, 0, none⟩))) (w.alloc (.cells (insC zeroI) 34)) := by
  have hs : 7 + j < a.tmps.size := by rw [h.sz]; omega
  refine ⟨h.low.alloc h.low.size _, by rw [put_size, h.sz], h.df, fun d hd => ?_, fun k hk hL => ?_, fun k hk hL => ?_, fun k l hk hl hkl h1 h2 => ?_⟩
  · rw [eval_pt _ _ hs, if_neg (fun e => (hd j hj).2 e.symm), h.rest d hd]
  · have e2 : (k == 5 + j) = false := beq_eq_false_iff_ne.2 (by omega)
    rw [eval_pt _ _ hs, if_neg (by omega)]
    simp only [e2, Bool.false_or] at hL
    exact h.ld k hk hL
  · have e3 : (10 + k == 5 + j) = false := beq_eq_false_iff_ne.2 (by omega)
    simp only [e3, Bool.false_or]
    rw [eval_pt _ _ hs]
    by_cases e : k = j
    · subst e
      rw [if_pos rfl, if_pos rfl]
      exact ⟨rfl, h.low.size, zeroI, Blk.new w _ _, fun hL2 => by rw [hn] at hL2; cases hL2⟩
    · rw [if_neg (by omega), if_neg e]
      have e2 : (5 + k == 5 + j) = false := beq_eq_false_iff_ne.2 (by omega)
      simp only [e2, Bool.false_or] at hL
      obtain ⟨k1, k2, c, k3, k4⟩ := h.al k hk hL
      exact ⟨k1, k2, c, k3.alloc _, k4⟩
  · have lt : ∀ k, k < 5 → L (5 + k) = true → q k < w.heap.size := fun k hk hL => by
      obtain ⟨-, -, c, k3, -⟩ := h.al k hk hL
      exact k3.lt
    by_cases e : k = j
    · subst e
      have e3 : (5 + l == 5 + k) = false := beq_eq_false_iff_ne.2 (by omega)
      simp only [e3, Bool.false_or] at h2
      rw [if_pos rfl, if_neg (fun e => hkl e.symm)]
      have := lt l hl h2
      omega
    · have e2 : (5 + k == 5 + j) = false := beq_eq_false_iff_ne.2 (by omega)
      simp only [e2, Bool.false_or] at h1
      rw [if_neg e]
      by_cases e' : l = j
      · rw [if_pos e']
        have := lt k hk h1
        omega
      · rw [if_neg e']
        have e3 : (5 + l == 5 + j) = false := beq_eq_false_iff_ne.2 (by omega)
        simp only [e3, Bool.false_or] at h2
        exact h.ne k l hk hl hkl h1 h2
theorem Cp.store {i : Ins} {a1 : Act} {w1 : World} {q : Nat → Nat} {L : Nat → Bool} {a : Act} {w : World} (h : Cp i a1 w1 q L a w) (j : Nat) (hj : j < 5) (hL5 : L (5 + j) = true) :
    Cp i a1 w1 q (fun x => x == 10 + j || L x) a (w.setRow (q j) (insC i)) := by
  obtain ⟨-, hlow, -⟩ := h.al j hj hL5
  refine ⟨h.low.trans (below_row _ hlow), h.sz, h.df, h.rest, fun k hk hL => ?_, fun k hk hL => ?_, fun k l hk hl hkl h1 h2 => ?_⟩
  · have e2 : (k == 10 + j) = false := beq_eq_false_iff_ne.2 (by omega)
    simp only [e2, Bool.false_or] at hL
    exact h.ld k hk hL
  · have e2 : (5 + k == 10 + j) = false := beq_eq_false_iff_ne.2 (by omega)
    simp only [e2, Bool.false_or] at hL
    obtain ⟨k1, k2, c, k3, k4⟩ := h.al k hk hL
    by_cases e : k = j
    · subst e
      exact ⟨k1, k2, i, k3.setRow' _, fun _ => rfl⟩
    · have e3 : (10 + k == 10 + j) = false := beq_eq_false_iff_ne.2 (by omega)
      simp only [e3, Bool.false_or]
      exact ⟨k1, k2, c, k3.rowOther (h.ne k j hk hj e hL hL5) _, k4⟩
  · have e2 : (5 + k == 10 + j) = false := beq_eq_false_iff_ne.2 (by omega)
    have e3 : (5 + l == 10 + j) = false := beq_eq_false_iff_ne.2 (by omega)
    simp only [e2, e3, Bool.false_or] at h1 h2
    exact h.ne k l hk hl hkl h1 h2
theorem backs_of {ops : Array Oper} (h : (ops.toList.zipIdx.all fun p => p.1.after.toList.all fun e => !Region.binds .any e || decide (e.on < p.2)) = true) : ∀ (i : Nat) (o : Oper), ops[i]? = some o → ∀ e ∈ o.after, Region.binds .any e = true → e.on < i := by
  intro i o ho e he hbi
  have h1 := List.all_eq_true.1 h (o, i) (List.mem_zipIdx_iff_getElem?.2 (by simpa using ho))
  have h2 := List.all_eq_true.1 h1 e (by simpa using he)
  rw [hbi] at h2
  exact of_decide_eq_true (by simpa using h2)
theorem copies {Q : Exit → Act → World → Prop} {id : Nat} {b : Bool} {ops : Array Oper} {i : Ins} {a1 : Act} {w1 : World} {pb : Nat} (hs0 : ops.size = 15) (hb : ∀ (i : Nat) (o : Oper), ops[i]? = some o → ∀ e ∈ o.after, Region.binds .any e = true → e.on < i) (hO : ∀ j, j < 5 → CpOps ops j)
    (h5 : a1.eval (.tmp 5) = .pointer (some ⟨pb, 0, none⟩)) (hP : Blk w1 pb 34 (insC i)) (hsz : a1.tmps.size = 89)
    (fin : ∀ (q : Nat → Nat) (w : World), Below w1.heap.size w1 w → (∀ j, j < 5 → w1.heap.size ≤ q j ∧ Blk w (q j) 34 (insC i)) → (∀ j k, j < 5 → k < 5 → j ≠ k → q j ≠ q k) → Q .normal (upA a1 [(26, .agg (insC i)), (27, .agg (insC i)), (28, .agg (insC i)), (29, .agg (insC i)), (30, .agg (insC i)), (7, .pointer (some ⟨q 0, 0, none⟩)), (8, .pointer (some ⟨q 1, 0, none⟩)), (9, .pointer (some ⟨q 2, 0, none⟩)), (10, .pointer (some ⟨q 3, 0, none⟩)), (11, .pointer (some ⟨q 4, 0, none⟩))]) w) : (Code.region id ops b).wp Tryd.prog Q a1 w1 := by
  refine region_allB (n := 15) (I := fun L a w => (∃ q, Cp i a1 w1 q L a w) ∧ ∀ j, j < 5 → L (10 + j) = true → L (5 + j) = true) (by kernel_rfl) hs0 hb ?_ ?_ ?_ ?_
  · rintro L x o a w hx ho hL he ⟨⟨q, h⟩, hcl⟩
    have cases3 : ∃ j, j < 5 ∧ (x = j ∨ x = 5 + j ∨ x = 10 + j) := by
      by_cases h1 : x < 5
      · exact ⟨x, h1, .inl rfl⟩
      · by_cases h2 : x < 10
        · exact ⟨x - 5, by omega, .inr (.inl (by omega))⟩
        · exact ⟨x - 10, by omega, .inr (.inr (by omega))⟩
    obtain ⟨j, hj, hc⟩ := cases3
    obtain ⟨⟨ty1, p1, f1, e1⟩, ⟨ty2, p2, f2, e2⟩, ⟨ty3, p3, f3, e3, z1, z2⟩⟩ := hO j hj
    obtain ⟨g1, m1, b1⟩ := List.any_eq_true.1 z1
    obtain ⟨g2, m2, b2⟩ := List.any_eq_true.1 z2
    rw [Bool.and_eq_true, beq_iff_eq] at b1 b2
    obtain ⟨n1, b1⟩ := b1
    obtain ⟨n2, b2⟩ := b2
    rcases hc with rfl | rfl | rfl
    · refine wpOp_yes' e1 rfl (wp_load_row 34 (.tmp 5) rfl pb ?_ 34 (insC i) (0, 0) _ (hP.of_below h.low) Tryd.underlying34 rfl (by kernel_rfl) ⟨⟨q, h.load x hj⟩, fun k hk hL2 => ?_⟩)
      · rw [h.rest 5 (fun k hk => ⟨by show (5 : Nat) ≠ 26 + k; omega, by show (5 : Nat) ≠ 7 + k; omega⟩)]
        exact h5
      · have t1 : (10 + k == x) = false := beq_eq_false_iff_ne.2 (by omega)
        simp only [t1, Bool.false_or] at hL2
        show (5 + k == x || L (5 + k)) = true
        rw [hcl k hk hL2, Bool.or_true]
    · have hn : L (10 + j) = false := by
        cases hq : L (10 + j)
        · rfl
        · rw [hcl j hj hq] at hL; cases hL
      refine wpOp_yes' e2 rfl (wp_value' al_ri ⟨⟨_, h.box j hj hn⟩, fun k hk hL2 => ?_⟩)
      have t1 : (10 + k == 5 + j) = false := beq_eq_false_iff_ne.2 (by omega)
      simp only [t1, Bool.false_or] at hL2
      show (5 + k == 5 + j || L (5 + k)) = true
      rw [hcl k hk hL2, Bool.or_true]
    · obtain rfl := Option.some.inj (e3.symm.trans ho)
      have hL1 : L j = true := by rw [← n1]; exact he g1 (by simpa using m1) b1
      have hL5 : L (5 + j) = true := by rw [← n2]; exact he g2 (by simpa using m2) b2
      obtain ⟨k1, k2, c, k3, -⟩ := h.al j hj hL5
      refine wpOp_yes' e3 rfl (wp_store_row 34 (.tmp (7 + j)) (.tmp (26 + j)) rfl (q j) (insC i) k1 (h.ld j hj hL1) 34 (insC c) k3 (by kernel_rfl) rfl (insC_all i) ⟨⟨q, h.store j hj hL5⟩, fun k hk hL2 => ?_⟩)
      by_cases e : k = j
      · subst e
        show (5 + k == 10 + k || L (5 + k)) = true
        rw [hL5, Bool.or_true]
      · have t1 : (10 + k == 10 + j) = false := beq_eq_false_iff_ne.2 (by omega)
        simp only [t1, Bool.false_or] at hL2
        show (5 + k == 10 + j || L (5 + k)) = true
        rw [hcl k hk hL2, Bool.or_true]
  · rintro L a w hall ⟨⟨q, h⟩, -⟩
    have := fin q w h.low (fun j hj => by
      obtain ⟨-, k2, c, k3, k4⟩ := h.al j hj (hall (5 + j) (by omega))
      obtain rfl := k4 (hall (10 + j) (by omega))
      exact ⟨k2, k3⟩) (fun j k hj hk hjk => h.ne j k hj hk hjk (hall (5 + j) (by omega)) (hall (5 + k) (by omega)))
    have e : a = (upA a1 [(26, .agg (insC i)), (27, .agg (insC i)), (28, .agg (insC i)), (29, .agg (insC i)), (30, .agg (insC i)), (7, .pointer (some ⟨q 0, 0, none⟩)), (8, .pointer (some ⟨q 1, 0, none⟩)), (9, .pointer (some ⟨q 2, 0, none⟩)), (10, .pointer (some ⟨q 3, 0, none⟩)), (11, .pointer (some ⟨q 4, 0, none⟩))]) := by
      refine act_eq (by rw [upA_size, h.sz, hsz]) (by rw [upA_df, h.df]) (fun (d : Nat) => ?_)
      by_cases h1 : ∃ j : Nat, j < 5 ∧ d = 26 + j
      · obtain ⟨j, hj, rfl⟩ := h1
        rw [h.ld j hj (hall j (by omega))]
        refine (upA_in (x := (26 + j, .agg (insC i))) _ _ (by show List.Nodup [26, 27, 28, 29, 30, 7, 8, 9, 10, 11]; decide) (fun p hp => by rw [hsz]; exact (show ∀ k ∈ [26, 27, 28, 29, 30, 7, 8, 9, 10, 11], k < 89 by decide) p.1 (List.mem_map_of_mem (f := Prod.fst) hp)) ?_).symm
        match j, hj with
        | 0, _ | 1, _ | 2, _ | 3, _ | 4, _ => simp
        | j + 5, h => exact absurd h (by omega)
      · by_cases h2 : ∃ j : Nat, j < 5 ∧ d = 7 + j
        · obtain ⟨j, hj, rfl⟩ := h2
          rw [(h.al j hj (hall (5 + j) (by omega))).1]
          refine (upA_in (x := (7 + j, .pointer (some ⟨q j, 0, none⟩))) _ _ (by show List.Nodup [26, 27, 28, 29, 30, 7, 8, 9, 10, 11]; decide) (fun p hp => by rw [hsz]; exact (show ∀ k ∈ [26, 27, 28, 29, 30, 7, 8, 9, 10, 11], k < 89 by decide) p.1 (List.mem_map_of_mem (f := Prod.fst) hp)) ?_).symm
          match j, hj with
          | 0, _ | 1, _ | 2, _ | 3, _ | 4, _ => simp
          | j + 5, h => exact absurd h (by omega)
        · have h1' : ∀ j : Nat, j < 5 → d ≠ 26 + j := fun j hj e => h1 ⟨j, hj, e⟩
          have h2' : ∀ j : Nat, j < 5 → d ≠ 7 + j := fun j hj e => h2 ⟨j, hj, e⟩
          rw [h.rest d (fun j hj => ⟨h1' j hj, h2' j hj⟩)]
          refine (upA_out _ _ ?_).symm
          intro p hp
          simp only [List.mem_cons, List.not_mem_nil, or_false] at hp
          have z0 := h1' 0 (by omega)
          have z1 := h1' 1 (by omega)
          have z2 := h1' 2 (by omega)
          have z3 := h1' 3 (by omega)
          have z4 := h1' 4 (by omega)
          have y0 := h2' 0 (by omega)
          have y1 := h2' 1 (by omega)
          have y2 := h2' 2 (by omega)
          have y3 := h2' 3 (by omega)
          have y4 := h2' 4 (by omega)
          rcases hp with rfl | rfl | rfl | rfl | rfl | rfl | rfl | rfl | rfl | rfl <;> (intro e; first | exact z0 e.symm | exact z1 e.symm | exact z2 e.symm | exact z3 e.symm | exact z4 e.symm | exact y0 e.symm | exact y1 e.symm | exact y2 e.symm | exact y3 e.symm | exact y4 e.symm)
    rw [e]
    exact this
  · exact ⟨⟨fun _ => 0, Below.refl _ _, hsz, rfl, fun _ _ => rfl, fun _ _ h => (by cases h), fun _ _ h => (by cases h), fun _ _ _ _ _ h => (by cases h)⟩, fun _ _ h => (by cases h)⟩
  · exact ⟨⟨fun _ => 0, (Below.refl _ _).drew, hsz, rfl, fun _ _ => rfl, fun _ _ h => (by cases h), fun _ _ h => (by cases h), fun _ _ _ _ _ h => (by cases h)⟩, fun _ _ h => (by cases h)⟩
end Go.Proofs.YtbggcofnopaloaaDoor
namespace Go.Proofs.YtbggcofnopaloaaDoor
open Go.RowKit Sx
def regsC : Array Value := #[.int .i64 (-1), .int .i64 0, .int .i64 1, .int .i64 30, .int .i64 31, .int .i64 32]
def immsC : Array Value := #[.int .i64 (-33554433), .int .i64 (-33554432), .int .i64 (-262145), .int .i64 (-262144), .int .i64 (-8), .int .i64 (-1), .int .i64 0, .int .i64 1, .int .i64 4, .int .i64 7, .int .i64 8, .int .i64 30, .int .i64 31, .int .i64 32, .int .i64 62, .int .i64 63, .int .i64 64, .int .i64 4095, .int .i64 4096, .int .i64 32752, .int .i64 32760, .int .i64 32761, .int .i64 32768, .int .i64 65535, .int .i64 65536, .int .i64 262143, .int .i64 262144, .int .i64 33554431]
def condsC : Array Value := #[.int .i64 (-1), .int .i64 0, .int .i64 3, .int .i64 4, .int .i64 12, .int .i64 13, .int .i64 14, .int .i64 15]
def regsZ : Array Value := (List.replicate 6 (Value.int .i64 0)).toArray
def immsZ : Array Value := (List.replicate 28 (Value.int .i64 0)).toArray
def condsZ : Array Value := (List.replicate 8 (Value.int .i64 0)).toArray
theorem regs_zero (W : World) : (zeroValue 31).run Tryd.prog W = .ok (.agg regsZ) W := by kernel_rfl
theorem imms_zero (W : World) : (zeroValue 32).run Tryd.prog W = .ok (.agg immsZ) W := by kernel_rfl
theorem conds_zero (W : World) : (zeroValue 33).run Tryd.prog W = .ok (.agg condsZ) W := by kernel_rfl
theorem regs_all : regsC.all (·.oneCell') = true := by decide +kernel
theorem imms_all : immsC.all (·.oneCell') = true := by decide +kernel
theorem conds_all : condsC.all (·.oneCell') = true := by decide +kernel
theorem row_newT (t : TypeId) (w : World) (j z : Array Value) : Blk ((w.alloc (.cells z t)).setRow w.heap.size j) w.heap.size t j ∧ Below w.heap.size w ((w.alloc (.cells z t)).setRow w.heap.size j) :=
  ⟨(Blk.new w t z).setRow' j, ((Below.refl _ _).alloc (Nat.le_refl _) _).trans (below_row _ (Nat.le_refl _))⟩
structure Pre (N : Nat) (w0 w : World) : Prop where
  tb : Tb w
  bel : Below N w0 w
  le : N ≤ w.heap.size
theorem Pre.refl {w : World} (hT : Tb w) : Pre w.heap.size w w := ⟨hT, Below.refl _ _, Nat.le_refl _⟩
theorem Pre.step {N : Nat} {w0 w w' : World} (h : Pre N w0 w) (hb : Below w.heap.size w w') : Pre N w0 w' := ⟨h.tb.step hb, h.bel.trans (hb.mono h.le), Nat.le_trans h.le hb.size⟩
structure EdR (N b b2 b3 : Nat) (w0 w : World) : Prop where
  r : Blk w b 31 regsC
  m : Blk w b2 32 immsC
  c : Blk w b3 33 condsC
  pre : Pre N w0 w
theorem EdR.step {N b b2 b3 : Nat} {w0 w w' : World} (h : EdR N b b2 b3 w0 w) (hb : Below w.heap.size w w') : EdR N b b2 b3 w0 w' := ⟨h.r.of_below hb, h.m.of_below hb, h.c.of_below hb, h.pre.step hb⟩
theorem EdR.tb {N b b2 b3 : Nat} {w0 w : World} (h : EdR N b b2 b3 w0 w) : Tb w := h.pre.tb
structure EdP (N b b2 b3 pb : Nat) (i : Ins) (w0 w : World) : Prop where
  ed : EdR N b b2 b3 w0 w
  p : Blk w pb 34 (insC i)
theorem EdP.step {N b b2 b3 pb : Nat} {i : Ins} {w0 w w' : World} (h : EdP N b b2 b3 pb i w0 w) (hb : Below w.heap.size w w') : EdP N b b2 b3 pb i w0 w' := ⟨h.ed.step hb, h.p.of_below hb⟩
structure Fv (w1 : World) (q0 q1 q2 q3 q4 : Nat) (i0 i1 i2 i3 i4 : Ins) (w : World) : Prop where
  bel : Below w1.heap.size w1 w
  c0 : Blk w q0 34 (insC i0)
  c1 : Blk w q1 34 (insC i1)
  c2 : Blk w q2 34 (insC i2)
  c3 : Blk w q3 34 (insC i3)
  c4 : Blk w q4 34 (insC i4)
  l0 : w1.heap.size ≤ q0
  l1 : w1.heap.size ≤ q1
  l2 : w1.heap.size ≤ q2
  l3 : w1.heap.size ≤ q3
  l4 : w1.heap.size ≤ q4
  n01 : q0 ≠ q1
  n02 : q0 ≠ q2
  n03 : q0 ≠ q3
  n04 : q0 ≠ q4
  n12 : q1 ≠ q2
  n13 : q1 ≠ q3
  n14 : q1 ≠ q4
  n23 : q2 ≠ q3
  n24 : q2 ≠ q4
  n34 : q3 ≠ q4
theorem Fv.step {w1 w w' : World} {q0 q1 q2 q3 q4 : Nat} {i0 i1 i2 i3 i4 : Ins} (h : Fv w1 q0 q1 q2 q3 q4 i0 i1 i2 i3 i4 w) (hb : Below w.heap.size w w') : Fv w1 q0 q1 q2 q3 q4 i0 i1 i2 i3 i4 w' :=
  ⟨h.bel.trans (hb.mono h.bel.size), h.c0.of_below hb, h.c1.of_below hb, h.c2.of_below hb, h.c3.of_below hb, h.c4.of_below hb, h.l0, h.l1, h.l2, h.l3, h.l4, h.n01, h.n02, h.n03, h.n04, h.n12, h.n13, h.n14, h.n23, h.n24, h.n34⟩
theorem Fv.put0 {w1 w : World} {q0 q1 q2 q3 q4 : Nat} {i0 i1 i2 i3 i4 : Ins} (h : Fv w1 q0 q1 q2 q3 q4 i0 i1 i2 i3 i4 w) (f : Nat) (v : Value) (k : Ins) (hk : insC k = (insC i0).setIfInBounds f v) : Fv w1 q0 q1 q2 q3 q4 k i1 i2 i3 i4 (w.setCell ⟨q0, f, none⟩ v) :=
  ⟨h.bel.setCell h.l0 v, (by rw [hk]; exact h.c0.set f v), h.c1.setOther (by exact h.n01.symm) v, h.c2.setOther (by exact h.n02.symm) v, h.c3.setOther (by exact h.n03.symm) v, h.c4.setOther (by exact h.n04.symm) v, h.l0, h.l1, h.l2, h.l3, h.l4, h.n01, h.n02, h.n03, h.n04, h.n12, h.n13, h.n14, h.n23, h.n24, h.n34⟩
theorem Fv.put1 {w1 w : World} {q0 q1 q2 q3 q4 : Nat} {i0 i1 i2 i3 i4 : Ins} (h : Fv w1 q0 q1 q2 q3 q4 i0 i1 i2 i3 i4 w) (f : Nat) (v : Value) (k : Ins) (hk : insC k = (insC i1).setIfInBounds f v) : Fv w1 q0 q1 q2 q3 q4 i0 k i2 i3 i4 (w.setCell ⟨q1, f, none⟩ v) :=
  ⟨h.bel.setCell h.l1 v, h.c0.setOther (by exact h.n01) v, (by rw [hk]; exact h.c1.set f v), h.c2.setOther (by exact h.n12.symm) v, h.c3.setOther (by exact h.n13.symm) v, h.c4.setOther (by exact h.n14.symm) v, h.l0, h.l1, h.l2, h.l3, h.l4, h.n01, h.n02, h.n03, h.n04, h.n12, h.n13, h.n14, h.n23, h.n24, h.n34⟩
theorem Fv.put2 {w1 w : World} {q0 q1 q2 q3 q4 : Nat} {i0 i1 i2 i3 i4 : Ins} (h : Fv w1 q0 q1 q2 q3 q4 i0 i1 i2 i3 i4 w) (f : Nat) (v : Value) (k : Ins) (hk : insC k = (insC i2).setIfInBounds f v) : Fv w1 q0 q1 q2 q3 q4 i0 i1 k i3 i4 (w.setCell ⟨q2, f, none⟩ v) :=
  ⟨h.bel.setCell h.l2 v, h.c0.setOther (by exact h.n02) v, h.c1.setOther (by exact h.n12) v, (by rw [hk]; exact h.c2.set f v), h.c3.setOther (by exact h.n23.symm) v, h.c4.setOther (by exact h.n24.symm) v, h.l0, h.l1, h.l2, h.l3, h.l4, h.n01, h.n02, h.n03, h.n04, h.n12, h.n13, h.n14, h.n23, h.n24, h.n34⟩
theorem Fv.put3 {w1 w : World} {q0 q1 q2 q3 q4 : Nat} {i0 i1 i2 i3 i4 : Ins} (h : Fv w1 q0 q1 q2 q3 q4 i0 i1 i2 i3 i4 w) (f : Nat) (v : Value) (k : Ins) (hk : insC k = (insC i3).setIfInBounds f v) : Fv w1 q0 q1 q2 q3 q4 i0 i1 i2 k i4 (w.setCell ⟨q3, f, none⟩ v) :=
  ⟨h.bel.setCell h.l3 v, h.c0.setOther (by exact h.n03) v, h.c1.setOther (by exact h.n13) v, h.c2.setOther (by exact h.n23) v, (by rw [hk]; exact h.c3.set f v), h.c4.setOther (by exact h.n34.symm) v, h.l0, h.l1, h.l2, h.l3, h.l4, h.n01, h.n02, h.n03, h.n04, h.n12, h.n13, h.n14, h.n23, h.n24, h.n34⟩
theorem Fv.put4 {w1 w : World} {q0 q1 q2 q3 q4 : Nat} {i0 i1 i2 i3 i4 : Ins} (h : Fv w1 q0 q1 q2 q3 q4 i0 i1 i2 i3 i4 w) (f : Nat) (v : Value) (k : Ins) (hk : insC k = (insC i4).setIfInBounds f v) : Fv w1 q0 q1 q2 q3 q4 i0 i1 i2 i3 k (w.setCell ⟨q4, f, none⟩ v) :=
  ⟨h.bel.setCell h.l4 v, h.c0.setOther (by exact h.n04) v, h.c1.setOther (by exact h.n14) v, h.c2.setOther (by exact h.n24) v, h.c3.setOther (by exact h.n34) v, (by rw [hk]; exact h.c4.set f v), h.l0, h.l1, h.l2, h.l3, h.l4, h.n01, h.n02, h.n03, h.n04, h.n12, h.n13, h.n14, h.n23, h.n24, h.n34⟩
theorem regs_at (r : Nat) (h : r < 6) : ∃ x : Int, regsC[r]? = some (.int .i64 x) := by
  match r, h with
  | 0, _ => exact ⟨(-1), rfl⟩
  | 1, _ => exact ⟨0, rfl⟩
  | 2, _ => exact ⟨1, rfl⟩
  | 3, _ => exact ⟨30, rfl⟩
  | 4, _ => exact ⟨31, rfl⟩
  | 5, _ => exact ⟨32, rfl⟩
  | r + 6, h => exact absurd h (by omega)
theorem imms_at (r : Nat) (h : r < 28) : ∃ x : Int, immsC[r]? = some (.int .i64 x) := by
  match r, h with
  | 0, _ => exact ⟨(-33554433), rfl⟩
  | 1, _ => exact ⟨(-33554432), rfl⟩
  | 2, _ => exact ⟨(-262145), rfl⟩
  | 3, _ => exact ⟨(-262144), rfl⟩
  | 4, _ => exact ⟨(-8), rfl⟩
  | 5, _ => exact ⟨(-1), rfl⟩
  | 6, _ => exact ⟨0, rfl⟩
  | 7, _ => exact ⟨1, rfl⟩
  | 8, _ => exact ⟨4, rfl⟩
  | 9, _ => exact ⟨7, rfl⟩
  | 10, _ => exact ⟨8, rfl⟩
  | 11, _ => exact ⟨30, rfl⟩
  | 12, _ => exact ⟨31, rfl⟩
  | 13, _ => exact ⟨32, rfl⟩
  | 14, _ => exact ⟨62, rfl⟩
  | 15, _ => exact ⟨63, rfl⟩
  | 16, _ => exact ⟨64, rfl⟩
  | 17, _ => exact ⟨4095, rfl⟩
  | 18, _ => exact ⟨4096, rfl⟩
  | 19, _ => exact ⟨32752, rfl⟩
  | 20, _ => exact ⟨32760, rfl⟩
  | 21, _ => exact ⟨32761, rfl⟩
  | 22, _ => exact ⟨32768, rfl⟩
  | 23, _ => exact ⟨65535, rfl⟩
  | 24, _ => exact ⟨65536, rfl⟩
  | 25, _ => exact ⟨262143, rfl⟩
  | 26, _ => exact ⟨262144, rfl⟩
  | 27, _ => exact ⟨33554431, rfl⟩
  | r + 28, h => exact absurd h (by omega)
theorem conds_at (r : Nat) (h : r < 8) : ∃ x : Int, condsC[r]? = some (.int .i64 x) := by
  match r, h with
  | 0, _ => exact ⟨(-1), rfl⟩
  | 1, _ => exact ⟨0, rfl⟩
  | 2, _ => exact ⟨3, rfl⟩
  | 3, _ => exact ⟨4, rfl⟩
  | 4, _ => exact ⟨12, rfl⟩
  | 5, _ => exact ⟨13, rfl⟩
  | 6, _ => exact ⟨14, rfl⟩
  | 7, _ => exact ⟨15, rfl⟩
  | r + 8, h => exact absurd h (by omega)
set_option maxRecDepth 100000 in
set_option maxHeartbeats 16000000 in
theorem CodeEdges_calls (w : World) (hT : Tb w) :
    Calls Tryd.prog 5 #[] w fun e w' => e = .returned (.bool true) ∧ Below w.heap.size w w' := by
  have HP0 := hid_of (Pre.refl hT)
  have hca := l14awake_calls
  have hcp : ∀ (op : Nat), op < 48 → ∃ rm imm : Int, ∀ W, Calls Tryd.prog 12 #[.int .i64 op] W fun e w' => e = .returned (.agg (insC ⟨op, 0, 0, rm, imm, 0⟩)) ∧ Below W.heap.size W w' := fun op h => ⟨_, _, fun W => l14plain_calls op W h⟩
  have hcd := l14decodes_calls
  have hcq : ∀ (op : Nat) (rd rn rm imm cond : Int), op < 48 → ∀ W, Tb W → Calls Tryd.prog 13 #[.agg #[.int .i64 op, .int .i64 rd, .int .i64 rn, .int .i64 rm, .int .i64 imm, .int .i64 cond]] W fun e w' => e = .returned (.bool true) ∧ Below W.heap.size W w' := fun op rd rn rm imm cond h W hW => l14asked_calls ⟨op, rd, rn, rm, imm, cond⟩ W hW (by show -9223372036854775808 ≤ (op : Int) ∧ (op : Int) ≤ 9223372036854775807; omega)
  clear hT
  go_enter Tryd.func5, Tryd.ntmps5
  have hz1 := regs_zero
  have hz2 := imms_zero
  have hz3 := conds_zero
  go_upto_region 2 with (first | (refine wpList_build_row rfl 31 _ rfl (.agg regsC) (by kernel_rfl) ?_) | (refine wpList_store_row rfl 31 _ _ rfl w.heap.size regsC rfl rfl 31 regsZ (Blk.new w _ _) (by kernel_rfl) (by kernel_rfl) regs_all ?_))
  obtain ⟨ha, hB⟩ := row_newT 31 w regsC regsZ
  have HP1 := hid_of (HP0.out.step hB)
  have HA1 := hid_of ha
  clear ha hB
  generalize (w.alloc (.cells regsZ 31)).setRow w.heap.size regsC = w1 at *
  go_upto_region 3 with (first | (refine wpList_build_row rfl 32 _ rfl (.agg immsC) (by kernel_rfl) ?_) | (refine wpList_store_row rfl 32 _ _ rfl w1.heap.size immsC rfl rfl 32 immsZ (Blk.new w1 _ _) (by kernel_rfl) (by kernel_rfl) imms_all ?_))
  obtain ⟨ha, hB⟩ := row_newT 32 w1 immsC immsZ
  have HP2 := hid_of (HP1.out.step hB)
  have HA2 := hid_of (HA1.out.of_below hB)
  have HM2 := hid_of ha
  clear ha hB
  generalize (w1.alloc (.cells immsZ 32)).setRow w1.heap.size immsC = w2 at *
  go_upto_region 5 with (first | (refine wpList_build_row rfl 33 _ rfl (.agg condsC) (by kernel_rfl) ?_) | (refine wpList_store_row rfl 33 _ _ rfl w2.heap.size condsC rfl rfl 33 condsZ (Blk.new w2 _ _) (by kernel_rfl) (by kernel_rfl) conds_all ?_))
  obtain ⟨ha, hB⟩ := row_newT 33 w2 condsC condsZ
  have HR : Hid (EdR w.heap.size w.heap.size w1.heap.size w2.heap.size w ((w2.alloc (.cells condsZ 33)).setRow w2.heap.size condsC)) := ⟨HA2.out.of_below hB, HM2.out.of_below hB, ha, HP2.out.step hB⟩
  clear ha hB HA1 HA2 HM2 HP0 HP1 HP2 hz1 hz2 hz3
  generalize (w2.alloc (.cells condsZ 33)).setRow w2.heap.size condsC = w3 at *
  generalize w1.heap.size = b2 at *
  generalize w2.heap.size = b3 at *
  go_loopw [4] (fun i wr => ∃ n : Nat, 1 ≤ n ∧ n ≤ 48 ∧ i = .int .i64 n ∧ Hid (EdR w.heap.size w.heap.size b2 b3 w wr)) (fun i _ => 48 - (intOf i).toNat)
  case atStart => exact ⟨1, by omega, by omega, rfl, HR⟩
  case round =>
    obtain ⟨op, h1, hn, rfl, HRr⟩ := hrel
    by_cases h48 : op < 48
    · obtain ⟨rm, imm, hcp'⟩ := hcp op h48
      have hcq' := fun rd rn rm imm cond => hcq op rd rn rm imm cond h48
      have hcd' := fun W hW => hcd op W hW h1 h48
      clear hcp hcq hcd
      go_upto_region 8 with (first | (go_at_call 12; refine (hcp' _).mono ?_; rintro e w4 ⟨rfl, hB4⟩; have HR4 := hid_of (HRr.out.step hB4); clear hB4) | (refine wpList_store_row rfl 34 _ _ rfl w4.heap.size (insC ⟨op, 0, 0, rm, imm, 0⟩) rfl rfl 34 (insC zeroI) (Blk.new w4 _ _) (by kernel_rfl) rfl (insC_all _) ?_))
      obtain ⟨hb5, hB5⟩ := row_newR w4 (insC ⟨op, 0, 0, rm, imm, 0⟩) (insC zeroI)
      have HP5 := hid_of (EdP.mk (HR4.out.step hB5) hb5)
      clear hb5 hB5
      generalize hw : (w4.alloc (.cells (insC zeroI) 34)).setRow w4.heap.size (insC ⟨op, 0, 0, rm, imm, 0⟩) = w5 at *
      have hw' : (w4.alloc (.cells #[.int .i64 0, .int .i64 0, .int .i64 0, .int .i64 0, .int .i64 0, .int .i64 0] 34)).setRow w4.heap.size (insC ⟨op, 0, 0, rm, imm, 0⟩) = w5 := hw
      have hw'' : (w4.alloc (.cells #[.int .i64 0, .int .i64 0, .int .i64 0, .int .i64 0, .int .i64 0, .int .i64 0] 34)).setRow w4.heap.size #[.int .i64 op, .int .i64 0, .int .i64 0, .int .i64 rm, .int .i64 imm, .int .i64 0] = w5 := hw
      try first | rw [hw'] | rw [hw'']
      clear hw hw' hw''
      generalize w4.heap.size = pb at *
      go_upto_region 9 with fail
      go_loopw [6] (fun i wr => ∃ n : Nat, n ≤ 28 ∧ i = .int .i64 n ∧ Hid (EdP w.heap.size w.heap.size b2 b3 pb ⟨op, 0, 0, rm, imm, 0⟩ w wr)) (fun i _ => 28 - (intOf i).toNat)
      case atStart => exact ⟨0, by omega, rfl, HP5⟩
      case round =>
        obtain ⟨k, hk, rfl, HPk⟩ := hrel
        by_cases h28 : k < 28
        · have hr6 : k % 6 < 6 := Nat.mod_lt _ (by decide)
          have hr8 : k % 8 < 8 := Nat.mod_lt _ (by decide)
          have hk6 : Int.tmod (k : Int) 6 = ((k % 6 : Nat) : Int) := by rw [Int.tmod_eq_emod_of_nonneg (by omega)]; omega
          have hk8 : Int.tmod (k : Int) 8 = ((k % 8 : Nat) : Int) := by rw [Int.tmod_eq_emod_of_nonneg (by omega)]; omega
          obtain ⟨x, hx⟩ := regs_at (k % 6) hr6
          obtain ⟨z, hz⟩ := conds_at (k % 8) hr8
          obtain ⟨y, hy⟩ := imms_at k h28
          generalize k % 6 = r6 at *
          generalize k % 8 = r8 at *
          go_upto_region 11 with fail
          rename_i hK
          refine copies (i := ⟨op, 0, 0, rm, imm, 0⟩) (pb := pb) rfl (backs_of (by kernel_rfl)) (fun j hj => ?_) rfl HPk.out.p rfl (fun q W0 hB hq hne => hK _ _ ?_)
          · match j, hj with
            | 0, _ | 1, _ | 2, _ | 3, _ | 4, _ => exact ⟨⟨_, _, _, rfl⟩, ⟨_, _, _, rfl⟩, ⟨_, _, _, rfl, by kernel_rfl, by kernel_rfl⟩⟩
            | j + 5, h => exact absurd h (by omega)
          clear hK
          have HF0 : Hid (Fv wr (q 0) (q 1) (q 2) (q 3) (q 4) ⟨op, 0, 0, rm, imm, 0⟩ ⟨op, 0, 0, rm, imm, 0⟩ ⟨op, 0, 0, rm, imm, 0⟩ ⟨op, 0, 0, rm, imm, 0⟩ ⟨op, 0, 0, rm, imm, 0⟩ W0) := ⟨hB, (hq 0 (by omega)).2, (hq 1 (by omega)).2, (hq 2 (by omega)).2, (hq 3 (by omega)).2, (hq 4 (by omega)).2, (hq 0 (by omega)).1, (hq 1 (by omega)).1, (hq 2 (by omega)).1, (hq 3 (by omega)).1, (hq 4 (by omega)).1, hne 0 1 (by omega) (by omega) (by omega), hne 0 2 (by omega) (by omega) (by omega), hne 0 3 (by omega) (by omega) (by omega), hne 0 4 (by omega) (by omega) (by omega), hne 1 2 (by omega) (by omega) (by omega), hne 1 3 (by omega) (by omega) (by omega), hne 1 4 (by omega) (by omega) (by omega), hne 2 3 (by omega) (by omega) (by omega), hne 2 4 (by omega) (by omega) (by omega), hne 3 4 (by omega) (by omega) (by omega)⟩
          clear hB hq hne
          generalize q 0 = q0 at *
          generalize q 1 = q1 at *
          generalize q 2 = q2 at *
          generalize q 3 = q3 at *
          generalize q 4 = q4 at *
          clear q
          dsimp only [upA, List.foldl]
          have e1 := (HPk.out.step HF0.out.bel).ed.r.cell hx
          have e2 := HF0.out.c0.cell (j := 1) (v := .int .i64 0) rfl
          have e3 := HF0.out.c0.frozen 1
          go_upto_region 13 with fail
          clear e1 e2 e3
          have HF1 := hid_of (HF0.out.put0 1 (.int .i64 x) ⟨op, x, 0, rm, imm, 0⟩ rfl)
          generalize W0.setCell ⟨q0, 1, none⟩ (.int .i64 x) = W1 at *
          clear HF0
          have e1 := (HPk.out.step HF1.out.bel).ed.r.cell hx
          have e2 := HF1.out.c1.cell (j := 2) (v := .int .i64 0) rfl
          have e3 := HF1.out.c1.frozen 2
          go_upto_region 14 with fail
          clear e1 e2 e3
          have HF2 := hid_of (HF1.out.put1 2 (.int .i64 x) ⟨op, 0, x, rm, imm, 0⟩ rfl)
          generalize W1.setCell ⟨q1, 2, none⟩ (.int .i64 x) = W2 at *
          clear HF1
          have e1 := (HPk.out.step HF2.out.bel).ed.r.cell hx
          have e2 := HF2.out.c2.cell (j := 3) (v := .int .i64 rm) rfl
          have e3 := HF2.out.c2.frozen 3
          go_upto_region 15 with fail
          clear e1 e2 e3
          have HF3 := hid_of (HF2.out.put2 3 (.int .i64 x) ⟨op, 0, 0, x, imm, 0⟩ rfl)
          generalize W2.setCell ⟨q2, 3, none⟩ (.int .i64 x) = W3 at *
          clear HF2
          have e1 := (HPk.out.step HF3.out.bel).ed.m.cell hy
          have e2 := HF3.out.c3.cell (j := 4) (v := .int .i64 imm) rfl
          have e3 := HF3.out.c3.frozen 4
          go_upto_region 16 with fail
          clear e1 e2 e3
          have HF4 := hid_of (HF3.out.put3 4 (.int .i64 y) ⟨op, 0, 0, rm, y, 0⟩ rfl)
          generalize W3.setCell ⟨q3, 4, none⟩ (.int .i64 y) = W4 at *
          clear HF3
          have e1 := (HPk.out.step HF4.out.bel).ed.c.cell hz
          have e2 := HF4.out.c4.cell (j := 5) (v := .int .i64 0) rfl
          have e3 := HF4.out.c4.frozen 5
          go_upto_region 17 with fail
          clear e1 e2 e3
          have HF5 := hid_of (HF4.out.put4 5 (.int .i64 z) ⟨op, 0, 0, rm, imm, z⟩ rfl)
          generalize W4.setCell ⟨q4, 5, none⟩ (.int .i64 z) = W5 at *
          clear HF4
          obtain ⟨d0, d1, d2, d3, d4, d5⟩ := InS.ofT HF5.out.c0
          dsimp only at d0 d1 d2 d3 d4 d5
          go_wp2_with (first | (go_at_call 13; refine (hcq' x 0 rm imm 0 _ (HPk.out.step HF5.out.bel).ed.tb).mono ?_; rintro e W6 ⟨rfl, hB⟩; have hF := HF5.out.step hB; obtain ⟨d0, d1, d2, d3, d4, d5⟩ := InS.ofT hF.c1; dsimp only at d0 d1 d2 d3 d4 d5; have HF6 := hid_of hF; clear hF hB HF5) | (go_at_call 13; refine (hcq' 0 x rm imm 0 _ (HPk.out.step HF6.out.bel).ed.tb).mono ?_; rintro e W7 ⟨rfl, hB⟩; have hF := HF6.out.step hB; obtain ⟨d0, d1, d2, d3, d4, d5⟩ := InS.ofT hF.c2; dsimp only at d0 d1 d2 d3 d4 d5; have HF7 := hid_of hF; clear hF hB HF6) | (go_at_call 13; refine (hcq' 0 0 x imm 0 _ (HPk.out.step HF7.out.bel).ed.tb).mono ?_; rintro e W8 ⟨rfl, hB⟩; have hF := HF7.out.step hB; obtain ⟨d0, d1, d2, d3, d4, d5⟩ := InS.ofT hF.c3; dsimp only at d0 d1 d2 d3 d4 d5; have HF8 := hid_of hF; clear hF hB HF7) | (go_at_call 13; refine (hcq' 0 0 rm y 0 _ (HPk.out.step HF8.out.bel).ed.tb).mono ?_; rintro e W9 ⟨rfl, hB⟩; have hF := HF8.out.step hB; obtain ⟨d0, d1, d2, d3, d4, d5⟩ := InS.ofT hF.c4; dsimp only at d0 d1 d2 d3 d4 d5; have HF9 := hid_of hF; clear hF hB HF8) | (go_at_call 13; refine (hcq' 0 0 rm imm z _ (HPk.out.step HF9.out.bel).ed.tb).mono ?_; rintro e W10 ⟨rfl, hB⟩; have hF := HF9.out.step hB; have HF10 := hid_of hF; clear hF hB HF9))
          exact ⟨⟨k + 1, by omega, by go_num, hid_of (HPk.out.step HF10.out.bel)⟩, by simp [intOf]; omega⟩
        · obtain rfl : k = 28 := by omega
          obtain ⟨d0, d1, d2, d3, d4, d5⟩ := InS.ofT HPk.out.p
          dsimp only at d0 d1 d2 d3 d4 d5
          go_upto_region 20 with (refine wpList_store_row rfl 34 _ _ rfl wr.heap.size (insC ⟨op, 0, 0, rm, imm, 0⟩) rfl rfl 34 (insC zeroI) (Blk.new wr _ _) (by kernel_rfl) rfl (insC_all _) ?_)
          clear d0 d1 d2 d3 d4 d5
          obtain ⟨hb6, hB6⟩ := row_newR wr (insC ⟨op, 0, 0, rm, imm, 0⟩) (insC zeroI)
          have HB6 := hid_of hB6
          have HQ6 := hid_of hb6
          clear hb6 hB6
          generalize hw : (wr.alloc (.cells (insC zeroI) 34)).setRow wr.heap.size (insC ⟨op, 0, 0, rm, imm, 0⟩) = w6 at *
          have hw' : (wr.alloc (.cells #[.int .i64 0, .int .i64 0, .int .i64 0, .int .i64 0, .int .i64 0, .int .i64 0] 34)).setRow wr.heap.size (insC ⟨op, 0, 0, rm, imm, 0⟩) = w6 := hw
          have hw'' : (wr.alloc (.cells #[.int .i64 0, .int .i64 0, .int .i64 0, .int .i64 0, .int .i64 0, .int .i64 0] 34)).setRow wr.heap.size #[.int .i64 op, .int .i64 0, .int .i64 0, .int .i64 rm, .int .i64 imm, .int .i64 0] = w6 := hw
          try first | rw [hw'] | rw [hw'']
          clear hw hw' hw''
          have e2 := HQ6.out.cell (j := 4) (v := .int .i64 imm) rfl
          have e3 := HQ6.out.frozen 4
          go_upto_region 21 with fail
          clear e2 e3
          have hb7 : Blk (w6.setCell ⟨wr.heap.size, 4, none⟩ (.int .i64 33554432)) wr.heap.size 34 (insC ⟨op, 0, 0, rm, 33554432, 0⟩) := HQ6.out.set 4 (.int .i64 33554432)
          have HP7 := hid_of (HPk.out.step (HB6.out.setCell (p := ⟨wr.heap.size, 4, none⟩) (Nat.le_refl _) (.int .i64 33554432)))
          generalize w6.setCell ⟨wr.heap.size, 4, none⟩ (.int .i64 33554432) = w7 at *
          obtain ⟨d0, d1, d2, d3, d4, d5⟩ := InS.ofT hb7
          dsimp only at d0 d1 d2 d3 d4 d5
          clear hb7 HB6 HQ6
          go_wp2_with (first | (go_at_call 13; refine (hcq' 0 0 rm 33554432 0 _ HP7.out.ed.tb).mono ?_; rintro e w8 ⟨rfl, hB8⟩; have HP8 := hid_of (HP7.out.step hB8); clear hB8 HP7) | (go_at_call 14; refine (hcd' _ HP8.out.ed.tb).mono ?_; rintro e w9 ⟨rfl, hB9⟩; have HP9 := hid_of (HP8.out.step hB9); clear hB9 HP8))
          exact ⟨⟨op + 1, by omega, by omega, by go_num, hid_of HP9.out.ed⟩, by simp [intOf]; omega⟩
    · obtain rfl : op = 48 := by omega
      go_wp2_with (go_at_call 9; refine (hca _ HRr.out.tb).mono ?_; rintro e w4 ⟨rfl, hB4⟩; have HR4 := hid_of (HRr.out.step hB4); clear hB4)
      go_ret
      exact ⟨rfl, HR4.out.pre.bel⟩
end Go.Proofs.YtbggcofnopaloaaDoor
