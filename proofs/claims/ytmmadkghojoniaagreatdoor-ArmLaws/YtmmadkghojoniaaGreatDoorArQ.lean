/- ArmLaws' walk. -/
import Derived.Test.YtmmadkghojoniaaGreatDoorArLE
import Derived.Test.YtmmadkghojoniaaGreatDoorJ33
namespace Go.Proofs.YtmmadkghojoniaaGreatDoor
open Go.RowKit Go.Shelf Sx
def lawX (h0 h1 h2 h3 h4 : Bool) (x y : Int) : Bool :=
  if (if (if (if h0 then x == y else false) then true else (if (if h3 then true else h2) then x != y else false)) then true else (if h1 then x != y else false)) then true else
    (if (if (if h4 then decide (x ≥ 0) else false) then decide (y < 0) else false) then !h0 else false)
theorem lawX_no {g : Gr} (hn : g.evs.length ≤ 256) (h : Wf g true) (i j : Nat) :
    lawX (hasP (RL g 0) ((i : Nat) : Int) ((j : Nat) : Int)) (hasP (RL g 1) ((i : Nat) : Int) ((j : Nat) : Int)) (hasP (RL g 2) ((i : Nat) : Int) ((j : Nat) : Int)) (hasP (RL g 3) ((i : Nat) : Int) ((j : Nat) : Int)) (hasP (RL g 4) ((i : Nat) : Int) ((j : Nat) : Int)) (g.evs.getD i Ev.zero).t (g.evs.getD j Ev.zero).t = false := by
  have := lawN_no hn h i j
  unfold lawN at this
  dsimp only at this
  have e1 : g.ev i = g.evs.getD i Ev.zero := rfl
  have e2 : g.ev j = g.evs.getD j Ev.zero := rfl
  rw [e1, e2] at this
  unfold lawX
  generalize hasP (RL g 0) _ _ = b0 at *
  generalize hasP (RL g 1) _ _ = b1 at *
  generalize hasP (RL g 2) _ _ = b2 at *
  generalize hasP (RL g 3) _ _ = b3 at *
  generalize hasP (RL g 4) _ _ = b4 at *
  generalize (g.evs.getD i Ev.zero).t = x at *
  generalize (g.evs.getD j Ev.zero).t = y at *
  cases b0 <;> cases b1 <;> cases b2 <;> cases b3 <;> cases b4 <;> simp_all
def wayX (tw tb w b : Int) : Bool := if (if decide (tw ≥ 0) then tw == tb else false) then decide (w > b) else false
theorem wayX_no {tw tb : Int} {a b : Nat} (h : 0 ≤ tw → tw = tb → ¬ b < a) : wayX tw tb ((a : Nat) : Int) ((b : Nat) : Int) = false := by
  unfold wayX
  by_cases h1 : tw ≥ 0
  · by_cases h2 : tw = tb
    · have := h h1 h2
      have e : decide (((a : Nat) : Int) > ((b : Nat) : Int)) = false := decide_eq_false (by omega)
      rw [e]; simp
    · have e : (tw == tb) = false := by simpa using h2
      rw [e]; simp
  · rw [decide_eq_false h1]; simp
abbrev lM (w : World) (V : GrV) (g : Gr) (fb : Nat) : Lm := ⟨⟨w.heap.size, V, g, V.rf, g.rf⟩, 5, fb, RL g⟩
set_option linter.unusedSimpArgs false in
set_option maxRecDepth 100000 in
set_option maxHeartbeats 32000000 in
theorem ArmLaws_calls (V : GrV) (g : Gr) (w : World) (h : GrR w V g) (hF : Frm w) (hT : Tab w) : Calls Tryz.prog 7 #[V.val g] w fun r w' => r = .returned (.bool true) ∧ Below w.heap.size w w' := by
  have hg0 := Blk.new w 27 (V.gs g)
  have hB0 : Below w.heap.size w (w.alloc (.cells (V.gs g) 27)) := (Below.refl _ _).alloc (Nat.le_refl _) _
  have e1 : w.alloc (.cells (V.gs g) 27) = w.alloc (.cells #[.int .i64 g.cells, V.ev, V.rf, V.co, V.rmw, V.addr, V.dat, V.ctrl] 27) := rfl
  rw [e1] at hB0 hg0
  have HV := hid_of (h.below hB0)
  have HF := hid_of (hF.step hB0)
  have HT := hid_of (hT.step' hB0)
  have HB0 := hid_of hB0
  have HG0 := hid_of hg0
  unfold GrV.val
  clear h hF hT hB0 hg0 e1
  go_enter Tryz.func7, Tryz.ntmps7
  go_upto_region 1 with fail
  generalize w.alloc (.cells #[.int .i64 g.cells, V.ev, V.rf, V.co, V.rmw, V.addr, V.dat, V.ctrl] 27) = W0 at *
  go_wp2_with (first | refine wpList_load_row rfl 27 _ rfl w.heap.size rfl 27 (V.gs g) (0, 0) _ HG0.out Tryz.underlying27 rfl (by kernel_rfl) ?_)
  refine (arDerive_calls V g W0 HV.out HF.out HT.out).mono ?_
  rintro e w1 (⟨hc, rfl, hB1⟩ | ⟨hc, ks, ls, rfl, hR, hB1⟩)
  · have hz := Blk.new w1 44 #[.pointer none, .pointer none, .pointer none, .pointer none, .pointer none]
    have hBz : Below w1.heap.size w1 ((w1.alloc (.cells #[.pointer none, .pointer none, .pointer none, .pointer none, .pointer none] 44)).setRow w1.heap.size nil5) := ((Below.refl w1.heap.size w1).alloc (Nat.le_refl _) _).trans (below_row _ (Nat.le_refl _))
    have hA1 : Below W0.heap.size W0 ((w1.alloc (.cells #[.pointer none, .pointer none, .pointer none, .pointer none, .pointer none] 44)).setRow w1.heap.size nil5) := below_step hB1 hB1.size hBz
    have HA1 := hid_of hA1
    have HG1 := hid_of (HG0.out.of_below hA1)
    clear hA1 hBz hB1
    go_upto_region 2 with (first | refine wpList_store_row rfl 44 _ _ rfl w1.heap.size nil5 rfl rfl 44 #[.pointer none, .pointer none, .pointer none, .pointer none, .pointer none] hz (by kernel_rfl) rfl (by kernel_rfl) ?_)
    clear hz
    generalize (w1.alloc (.cells #[.pointer none, .pointer none, .pointer none, .pointer none, .pointer none] 44)).setRow w1.heap.size nil5 = W1 at *
    go_wp2_with (first | refine wpList_load_row rfl 27 _ rfl w.heap.size rfl 27 (V.gs g) (0, 0) _ HG1.out Tryz.underlying27 rfl (by kernel_rfl) ?_)
    refine (arCheck_calls V g W1 (HV.out.below HA1.out) (HF.out.step HA1.out) (HT.out.step' HA1.out)).mono ?_
    rintro e w2 ⟨ax, v, l, er, rfl, hans, hown, hB2⟩
    obtain ⟨rfl, rfl, rfl⟩ := ansE hans hc
    obtain ⟨pz, cz, rfl⟩ := owns_len hown
    have HA2 : Hid (Below W0.heap.size W0 w2) := below_step HA1.out HA1.out.size hB2
    clear hans hown hB2
    go_wp2_with fail
    refine (l11lives_calls w2 (HF.out.step HA2.out) (HT.out.step' HA2.out)).mono ?_
    rintro e w3 ⟨rfl, hB3⟩
    go_wp2_with fail
    go_ret
    exact ⟨rfl, below_step HB0.out HB0.out.size (below_step HA2.out HA2.out.size hB3)⟩
  · have hz := Blk.new w1 44 #[.pointer none, .pointer none, .pointer none, .pointer none, .pointer none]
    have hBz : Below w1.heap.size w1 ((w1.alloc (.cells #[.pointer none, .pointer none, .pointer none, .pointer none, .pointer none] 44)).setRow w1.heap.size (fcC ks)) := ((Below.refl w1.heap.size w1).alloc (Nat.le_refl _) _).trans (below_row _ (Nat.le_refl _))
    have hA1 : Below W0.heap.size W0 ((w1.alloc (.cells #[.pointer none, .pointer none, .pointer none, .pointer none, .pointer none] 44)).setRow w1.heap.size (fcC ks)) := below_step hB1 hB1.size hBz
    have HA1 := hid_of hA1
    have HG1 := hid_of (HG0.out.of_below hA1)
    have HR1 := hid_of (fun i (hi : i < 5) => (hR i hi).1.below hBz)
    have HFB1 := hid_of (hz.setRow' (fcC ks))
    clear hA1 hBz hB1 hR
    go_upto_region 2 with (first | refine wpList_store_row rfl 44 _ _ rfl w1.heap.size (fcC ks) rfl rfl 44 #[.pointer none, .pointer none, .pointer none, .pointer none, .pointer none] hz (by kernel_rfl) rfl (by kernel_rfl) ?_)
    clear hz
    generalize (w1.alloc (.cells #[.pointer none, .pointer none, .pointer none, .pointer none, .pointer none] 44)).setRow w1.heap.size (fcC ks) = W1 at *
    generalize w1.heap.size = fb at *
    go_wp2_with (first | refine wpList_load_row rfl 27 _ rfl w.heap.size rfl 27 (V.gs g) (0, 0) _ HG1.out Tryz.underlying27 rfl (by kernel_rfl) ?_)
    refine (arCheck_calls V g W1 (HV.out.below HA1.out) (HF.out.step HA1.out) (HT.out.step' HA1.out)).mono ?_
    rintro e w2 ⟨ax, v, l, er, rfl, hans, hown, hB2⟩
    obtain ⟨rfl, hok⟩ := ansK hans hc
    obtain ⟨pz, cz, rfl⟩ := owns_len hown
    have hA2 : Below W0.heap.size W0 w2 := below_step HA1.out HA1.out.size hB2
    have hn : g.evs.length ≤ 256 := wf_len (show wfB g = true by unfold wfB; rw [hc]; simp)
    have hWF := wf_rule hc
    have HGa : Hid (LGm (lM w V g fb) w2) := ⟨⟨HV.out.below hA2, HG0.out.of_below hA2, (HV.out.below hA2).rf, hn⟩, fun _ => ⟨rfl, ks, HFB1.out.of_below hB2, fun i hi => ⟨ks i, ls i, rfl, (HR1.out i hi).below hB2⟩⟩, HF.out.step hA2, HT.out.step' hA2⟩
    have HB2 : Hid (Below w.heap.size w w2) := below_step HB0.out HB0.out.size hA2
    have HOK := hid_of hok
    have HN := hid_of hn
    have HWF := hid_of hWF
    clear hans hown hB2 hA2 HA1 HG1 HR1 HFB1 HG0 HV HF HT HB0 hok hc hn hWF
    go_upto_region 5 with fail
    have hlen : g.evs.length ≤ 256 := HN.out
    rename_i K1 hF K hK
    have hob : (!(RL g 4 == unionL [RL g 0, RL g 1, RL g 2, RL g 3])) = false := by rw [show RL g 4 = unionL [RL g 0, RL g 1, RL g 2, RL g 3] from rfl]; simp
    refine Eng.reg_keep (E := lE (lM w V g fb)) (T := 297) (w0 := w) (σ := upds (fun _ => LV.x 0 0) [(1, LV.b (GV.at 3 0)), (3, LV.x 1 0), (5, LV.nu ax)]) [(76, LV.bo (!(RL g 4 == unionL [RL g 0, RL g 1, RL g 2, RL g 3])))] (by as_aux_lemma => kernel_rfl) (by as_aux_lemma => kernel_rfl) (by as_aux_lemma => kernel_rfl) (viaP (p := True) (by as_aux_lemma => kernel_rfl) trivial) (by as_aux_lemma => kernel_rfl) (by as_aux_lemma => kernel_rfl) (by as_aux_lemma => kernel_rfl) (fun a w1 h => hK a w1 ?_) _ _
      (ga_of (E := lE (lM w V g fb)) (LV.x 0 0) [(1, LV.b (GV.at 3 0)), (3, LV.x 1 0), (5, LV.nu ax)] rfl rfl HB2.out HGa.out (by intro p hp; simp only [List.mem_cons, List.not_mem_nil, or_false] at hp; rcases hp with rfl | rfl | rfl <;> first | exact ⟨⟨rfl, trivial⟩, rfl⟩ | exact ⟨⟨trivial, rfl⟩, rfl⟩) rfl rfl)
    refine Eng.condk (E := lE (lM w V g fb)) 76 (!(RL g 4 == unionL [RL g 0, RL g 1, RL g 2, RL g 3])) false (by as_aux_lemma => kernel_rfl) (by as_aux_lemma => kernel_rfl) hob (fun hq => absurd hq (by decide)) (fun _ a w1 h => Go.wp_skip (hF a w1 ?_)) a w1 h
    clear hK hF
    replace h := h.to (LV.x 0 0) [(1, LV.b (GV.at 3 0)), (3, LV.x 1 0), (5, LV.nu ax)] rfl rfl (by as_aux_lemma => kernel_rfl)
    refine Eng.reg_seq (E := lE (lM w V g fb)) [(8, LV.nu ((g.evs.length : Nat) : Int))] (by as_aux_lemma => kernel_rfl) (by as_aux_lemma => kernel_rfl) (by as_aux_lemma => kernel_rfl) (viaP (p := True) (by as_aux_lemma => kernel_rfl) trivial) (by as_aux_lemma => kernel_rfl) (by as_aux_lemma => kernel_rfl) (by as_aux_lemma => kernel_rfl) (fun a w1 h => ?_) a w1 h
    refine wp_seq (Eng.reg_seq (E := lE (lM w V g fb)) [(9, LV.nu ((0 : Nat) : Int))] (by as_aux_lemma => kernel_rfl) (by as_aux_lemma => kernel_rfl) (by as_aux_lemma => kernel_rfl) (viaP (p := True) (by as_aux_lemma => kernel_rfl) trivial) (by as_aux_lemma => kernel_rfl) (by as_aux_lemma => kernel_rfl) (by as_aux_lemma => kernel_rfl) (fun a w1 h => ?_) a w1 h)
    refine wp_for g.evs.length (fun i a w1 => (lE (lM w V g fb)).Ga 297 w (upds (fun _ => LV.x 0 0) [(1, LV.b (GV.at 3 0)), (3, LV.x 1 0), (5, LV.nu ax), (8, LV.nu ((g.evs.length : Nat) : Int)), (9, LV.nu ((i : Nat) : Int))]) a w1) (h.to (LV.x 0 0) [(1, LV.b (GV.at 3 0)), (3, LV.x 1 0), (5, LV.nu ax), (8, LV.nu ((g.evs.length : Nat) : Int)), (9, LV.nu ((0 : Nat) : Int))] rfl rfl (by as_aux_lemma => kernel_rfl)) ?_
    clear h a w1
    intro i a w1 hi h
    refine Eng.reg_keep (E := lE (lM w V g fb)) [(82, LV.bo (decide (((i : Nat) : Int) < ((g.evs.length : Nat) : Int))))] (by as_aux_lemma => kernel_rfl) (by as_aux_lemma => kernel_rfl) (by as_aux_lemma => kernel_rfl) (viaP (p := True) (by as_aux_lemma => kernel_rfl) trivial) (by as_aux_lemma => kernel_rfl) (by as_aux_lemma => kernel_rfl) (by as_aux_lemma => kernel_rfl) (fun a w1 h => ?_) a w1 h
    refine ⟨_, lE_bo h 82 (decide (((i : Nat) : Int) < ((g.evs.length : Nat) : Int))) (by as_aux_lemma => kernel_rfl), fun hq => ?_, fun hq => ⟨by simpa using hq, ?_⟩⟩
    case refine_2 =>
      have hil : i < g.evs.length := by simpa using hq
      replace h := h.to (LV.x 0 0) [(1, LV.b (GV.at 3 0)), (3, LV.x 1 0), (5, LV.nu ax), (8, LV.nu ((g.evs.length : Nat) : Int)), (9, LV.nu ((i : Nat) : Int))] rfl rfl (by as_aux_lemma => kernel_rfl)
      refine Eng.reg_seq (E := lE (lM w V g fb)) [(10, LV.nu ((0 : Nat) : Int))] (by as_aux_lemma => kernel_rfl) (by as_aux_lemma => kernel_rfl) (by as_aux_lemma => kernel_rfl) (viaP (p := True) (by as_aux_lemma => kernel_rfl) trivial) (by as_aux_lemma => kernel_rfl) (by as_aux_lemma => kernel_rfl) (by as_aux_lemma => kernel_rfl) (fun a w1 h => ?_) a w1 h
      refine wp_for g.evs.length (fun j a w1 => (lE (lM w V g fb)).Ga 297 w (upds (fun _ => LV.x 0 0) [(1, LV.b (GV.at 3 0)), (3, LV.x 1 0), (5, LV.nu ax), (8, LV.nu ((g.evs.length : Nat) : Int)), (9, LV.nu ((i : Nat) : Int)), (10, LV.nu ((j : Nat) : Int))]) a w1) (h.to (LV.x 0 0) [(1, LV.b (GV.at 3 0)), (3, LV.x 1 0), (5, LV.nu ax), (8, LV.nu ((g.evs.length : Nat) : Int)), (9, LV.nu ((i : Nat) : Int)), (10, LV.nu ((0 : Nat) : Int))] rfl rfl (by as_aux_lemma => kernel_rfl)) ?_
      clear h a w1
      intro j a w1 hj h
      refine Eng.reg_keep (E := lE (lM w V g fb)) [(87, LV.bo (decide (((j : Nat) : Int) < ((g.evs.length : Nat) : Int))))] (by as_aux_lemma => kernel_rfl) (by as_aux_lemma => kernel_rfl) (by as_aux_lemma => kernel_rfl) (viaP (p := True) (by as_aux_lemma => kernel_rfl) trivial) (by as_aux_lemma => kernel_rfl) (by as_aux_lemma => kernel_rfl) (by as_aux_lemma => kernel_rfl) (fun a w1 h => ?_) a w1 h
      refine ⟨_, lE_bo h 87 (decide (((j : Nat) : Int) < ((g.evs.length : Nat) : Int))) (by as_aux_lemma => kernel_rfl), fun hq => ?_, fun hq => ⟨by simpa using hq, ?_⟩⟩
      case refine_2 =>
        have hjl : j < g.evs.length := by simpa using hq
        replace h := h.to (LV.x 0 0) [(1, LV.b (GV.at 3 0)), (3, LV.x 1 0), (5, LV.nu ax), (8, LV.nu ((g.evs.length : Nat) : Int)), (9, LV.nu ((i : Nat) : Int)), (10, LV.nu ((j : Nat) : Int))] rfl rfl (by as_aux_lemma => kernel_rfl)
        refine Eng.reg_seq (E := lE (lM w V g fb)) [(11, LV.nu (g.evs.getD i Ev.zero).t)] (by as_aux_lemma => kernel_rfl) (by as_aux_lemma => kernel_rfl) (by as_aux_lemma => kernel_rfl) (viaP (p := (true = true → (0 ≤ ((i : Nat) : Int) ∧ ((i : Nat) : Int) < ((g.evs.length : Nat) : Int))) ∧ True) (by as_aux_lemma => kernel_rfl) ⟨fun _ => ⟨by omega, by omega⟩, trivial⟩) (by as_aux_lemma => kernel_rfl) (by as_aux_lemma => kernel_rfl) (by as_aux_lemma => kernel_rfl) (fun a w1 h => ?_) a w1 h
        refine Eng.reg_seq (E := lE (lM w V g fb)) [(12, LV.nu (g.evs.getD j Ev.zero).t)] (by as_aux_lemma => kernel_rfl) (by as_aux_lemma => kernel_rfl) (by as_aux_lemma => kernel_rfl) (viaP (p := (true = true → (0 ≤ ((j : Nat) : Int) ∧ ((j : Nat) : Int) < ((g.evs.length : Nat) : Int))) ∧ True) (by as_aux_lemma => kernel_rfl) ⟨fun _ => ⟨by omega, by omega⟩, trivial⟩) (by as_aux_lemma => kernel_rfl) (by as_aux_lemma => kernel_rfl) (by as_aux_lemma => kernel_rfl) (fun a w1 h => ?_) a w1 h
        refine Eng.reg_seq (E := lE (lM w V g fb)) [(165, LV.bo (lawX (hasP (RL g 0) ((i : Nat) : Int) ((j : Nat) : Int)) (hasP (RL g 1) ((i : Nat) : Int) ((j : Nat) : Int)) (hasP (RL g 2) ((i : Nat) : Int) ((j : Nat) : Int)) (hasP (RL g 3) ((i : Nat) : Int) ((j : Nat) : Int)) (hasP (RL g 4) ((i : Nat) : Int) ((j : Nat) : Int)) (g.evs.getD i Ev.zero).t (g.evs.getD j Ev.zero).t))] (by as_aux_lemma => kernel_rfl) (by as_aux_lemma => kernel_rfl) (by as_aux_lemma => kernel_rfl) (viaP (p := True) (by as_aux_lemma => kernel_rfl) trivial) (by as_aux_lemma => kernel_rfl) (by as_aux_lemma => kernel_rfl) (by as_aux_lemma => kernel_rfl) (fun a w1 h => ?_) a w1 h
        refine Eng.condk (E := lE (lM w V g fb)) 165 (lawX (hasP (RL g 0) ((i : Nat) : Int) ((j : Nat) : Int)) (hasP (RL g 1) ((i : Nat) : Int) ((j : Nat) : Int)) (hasP (RL g 2) ((i : Nat) : Int) ((j : Nat) : Int)) (hasP (RL g 3) ((i : Nat) : Int) ((j : Nat) : Int)) (hasP (RL g 4) ((i : Nat) : Int) ((j : Nat) : Int)) (g.evs.getD i Ev.zero).t (g.evs.getD j Ev.zero).t) false (by as_aux_lemma => kernel_rfl) (by as_aux_lemma => kernel_rfl) (lawX_no hlen HWF.out i j) (fun hq => absurd hq (by decide)) (fun _ a w1 h => Go.wp_skip ?_) a w1 h
        replace h := h.to (LV.x 0 0) [(1, LV.b (GV.at 3 0)), (3, LV.x 1 0), (5, LV.nu ax), (8, LV.nu ((g.evs.length : Nat) : Int)), (9, LV.nu ((i : Nat) : Int)), (10, LV.nu ((j : Nat) : Int))] rfl rfl (by as_aux_lemma => kernel_rfl)
        refine Eng.reg_keep (E := lE (lM w V g fb)) [(10, LV.nu (((j + 1) : Nat) : Int))] (by as_aux_lemma => kernel_rfl) (by as_aux_lemma => kernel_rfl) (by as_aux_lemma => kernel_rfl) (viaP (p := (true = true → (-9223372036854775808 ≤ ((j : Nat) : Int) + 1 ∧ ((j : Nat) : Int) + 1 < 9223372036854775808)) ∧ True) (by as_aux_lemma => kernel_rfl) ⟨fun _ => ⟨by omega, by omega⟩, trivial⟩) (by as_aux_lemma => kernel_rfl) (by as_aux_lemma => kernel_rfl) (by as_aux_lemma => kernel_rfl) (fun a w1 h => ?_) a w1 h
        exact h.to (LV.x 0 0) [(1, LV.b (GV.at 3 0)), (3, LV.x 1 0), (5, LV.nu ax), (8, LV.nu ((g.evs.length : Nat) : Int)), (9, LV.nu ((i : Nat) : Int)), (10, LV.nu (((j + 1) : Nat) : Int))] rfl rfl (by as_aux_lemma => kernel_rfl)
      case refine_1 =>
        replace h := h.to (LV.x 0 0) [(1, LV.b (GV.at 3 0)), (3, LV.x 1 0), (5, LV.nu ax), (8, LV.nu ((g.evs.length : Nat) : Int)), (9, LV.nu ((i : Nat) : Int))] rfl rfl (by as_aux_lemma => kernel_rfl)
        refine Eng.reg_keep (E := lE (lM w V g fb)) [(9, LV.nu (((i + 1) : Nat) : Int))] (by as_aux_lemma => kernel_rfl) (by as_aux_lemma => kernel_rfl) (by as_aux_lemma => kernel_rfl) (viaP (p := (true = true → (-9223372036854775808 ≤ ((i : Nat) : Int) + 1 ∧ ((i : Nat) : Int) + 1 < 9223372036854775808)) ∧ True) (by as_aux_lemma => kernel_rfl) ⟨fun _ => ⟨by omega, by omega⟩, trivial⟩) (by as_aux_lemma => kernel_rfl) (by as_aux_lemma => kernel_rfl) (by as_aux_lemma => kernel_rfl) (fun a w1 h => ?_) a w1 h
        exact h.to (LV.x 0 0) [(1, LV.b (GV.at 3 0)), (3, LV.x 1 0), (5, LV.nu ax), (8, LV.nu ((g.evs.length : Nat) : Int)), (9, LV.nu (((i + 1) : Nat) : Int))] rfl rfl (by as_aux_lemma => kernel_rfl)
    case refine_1 =>
      replace h := h.to (LV.x 0 0) [(1, LV.b (GV.at 3 0)), (3, LV.x 1 0), (5, LV.nu ax), (8, LV.nu ((g.evs.length : Nat) : Int))] rfl rfl (by as_aux_lemma => kernel_rfl)
      refine wp_seq (Eng.reg_seq (E := lE (lM w V g fb)) [(167, LV.bo (ax != 0))] (by as_aux_lemma => kernel_rfl) (by as_aux_lemma => kernel_rfl) (by as_aux_lemma => kernel_rfl) (viaP (p := True) (by as_aux_lemma => kernel_rfl) trivial) (by as_aux_lemma => kernel_rfl) (by as_aux_lemma => kernel_rfl) (by as_aux_lemma => kernel_rfl) (fun a w1 h => ?_) a w1 h)
      refine Eng.condk (E := lE (lM w V g fb)) 167 (ax != 0) (ax != 0) (by as_aux_lemma => kernel_rfl) (by as_aux_lemma => kernel_rfl) rfl (fun hq a w1 h => ?_) (fun hq a w1 h => Go.wp_skip ?_) a w1 h
      case refine_1 =>
        refine wp_seq (Eng.reg_ret (E := lE (lM w V g fb)) (fn := Tryz.f7) (R := fun r w' => r = .returned (.bool true) ∧ Below w.heap.size w w') 2 (LV.bo true) (by as_aux_lemma => kernel_rfl) (by as_aux_lemma => kernel_rfl) (by as_aux_lemma => kernel_rfl) (viaP (p := True) (by as_aux_lemma => kernel_rfl) trivial) (by as_aux_lemma => kernel_rfl) (by as_aux_lemma => kernel_rfl) rfl (fun a w h => by exact wp_ret h) (fun N w' v hl hG hv => ⟨by rw [lE_rt hv], hl⟩) a w1 h)
      case refine_2 =>
      have hax : ax = 0 := by simpa using hq
      subst hax
      obtain ⟨hI, hO, -⟩ := ok_zero HOK.out
      have hrf : ∀ (i : Nat) (x : Int × Int), g.rf[i]? = some x → ∃ a b : Nat, x = (((a : Nat) : Int), ((b : Nat) : Int)) ∧ a < g.evs.length ∧ b < g.evs.length ∧ wayX (g.evs.getD a Ev.zero).t (g.evs.getD b Ev.zero).t ((a : Nat) : Int) ((b : Nat) : Int) = false := fun i x hx => by
        obtain ⟨a, b, e, ha, hb, hka, hkb, hl, hm⟩ := rf_parts HWF.out hx
        exact ⟨a, b, e, ha, hb, wayX_no (fun h0 ht => rf_law hlen hI hm ha hb hka hkb hl h0 ht)⟩
      have hco : ∀ (c i j : Nat) (l : List Int) (x y : Int), g.co[c]? = some l → i < j → l[i]? = some x → l[j]? = some y → ∃ a b : Nat, x = ((a : Nat) : Int) ∧ y = ((b : Nat) : Int) ∧ a < g.evs.length ∧ b < g.evs.length ∧ wayX (g.evs.getD a Ev.zero).t (g.evs.getD b Ev.zero).t ((a : Nat) : Int) ((b : Nat) : Int) = false := fun c i j l x y hl hij hx hy => by
        obtain ⟨_, hc⟩ := co_list HWF.out hl
        obtain ⟨a, rfl, ha, hka, hla⟩ := hc x (List.mem_of_getElem? hx)
        obtain ⟨b, rfl, hb, hkb, hlb⟩ := hc y (List.mem_of_getElem? hy)
        exact ⟨a, b, rfl, rfl, ha, hb, wayX_no (fun h0 ht => co_law hlen hI (co_iff.2 ⟨c, l, j, i, hl, hij, hx, hy⟩) ha hb hka hkb (by rw [hla, hlb]) h0 ht)⟩
      have hacy := ob_acy hlen hO
      have hrl : g.rf.length ≤ 9223372036854775807 := by obtain ⟨_, _, _, _, k⟩ := parg_form HGa.out.g.gr.rf; exact k
      obtain ⟨hcl, hcl2⟩ : g.co.length ≤ 9223372036854775807 ∧ ∀ (c : Nat) (l : List Int), g.co[c]? = some l → l.length ≤ 9223372036854775807 := by
        obtain ⟨_, _, _, k, vs, hv, _, k3⟩ := HGa.out.g.gr.co
        have hv : vs.length = g.co.length := hv
        exact ⟨k, fun c l hl => (k3 c _ l (List.getElem?_eq_getElem (by have := (List.getElem?_eq_some_iff.1 hl).1; omega)) hl).2.1⟩
      replace h := h.to (LV.x 0 0) [(1, LV.b (GV.at 3 0)), (3, LV.x 1 0)] rfl rfl (by as_aux_lemma => kernel_rfl)
      refine wp_seq (Eng.reg_seq (E := lE (lM w V g fb)) [(13, LV.nu ((0 : Nat) : Int))] (by as_aux_lemma => kernel_rfl) (by as_aux_lemma => kernel_rfl) (by as_aux_lemma => kernel_rfl) (viaP (p := True) (by as_aux_lemma => kernel_rfl) trivial) (by as_aux_lemma => kernel_rfl) (by as_aux_lemma => kernel_rfl) (by as_aux_lemma => kernel_rfl) (fun a w1 h => ?_) a w1 h)
      refine wp_for g.rf.length (fun i a w1 => (lE (lM w V g fb)).Ga 297 w (upds (fun _ => LV.x 0 0) [(1, LV.b (GV.at 3 0)), (3, LV.x 1 0), (13, LV.nu ((i : Nat) : Int))]) a w1) (h.to (LV.x 0 0) [(1, LV.b (GV.at 3 0)), (3, LV.x 1 0), (13, LV.nu ((0 : Nat) : Int))] rfl rfl (by as_aux_lemma => kernel_rfl)) ?_
      clear h a w1 hq
      intro i a w1 hi h
      refine Eng.reg_keep (E := lE (lM w V g fb)) [(173, LV.bo (decide (((i : Nat) : Int) < ((g.rf.length : Nat) : Int))))] (by as_aux_lemma => kernel_rfl) (by as_aux_lemma => kernel_rfl) (by as_aux_lemma => kernel_rfl) (viaP (p := True) (by as_aux_lemma => kernel_rfl) trivial) (by as_aux_lemma => kernel_rfl) (by as_aux_lemma => kernel_rfl) (by as_aux_lemma => kernel_rfl) (fun a w1 h => ?_) a w1 h
      refine ⟨_, lE_bo h 173 (decide (((i : Nat) : Int) < ((g.rf.length : Nat) : Int))) (by as_aux_lemma => kernel_rfl), fun hq => ?_, fun hq => ⟨by simpa using hq, ?_⟩⟩
      case refine_2 =>
        have hil : i < g.rf.length := by simpa using hq
        obtain ⟨a1, b1, hx, ha, hb, hway⟩ := hrf i _ (List.getElem?_eq_getElem hil)
        have hgd : g.rf.getD i (0, 0) = (((a1 : Nat) : Int), ((b1 : Nat) : Int)) := by rw [List.getD_eq_getElem?_getD, List.getElem?_eq_getElem hil, hx]; rfl
        replace h := h.to (LV.x 0 0) [(1, LV.b (GV.at 3 0)), (3, LV.x 1 0), (13, LV.nu ((i : Nat) : Int))] rfl rfl (by as_aux_lemma => kernel_rfl)
        refine Eng.reg_seq (E := lE (lM w V g fb)) [(14, LV.nu (g.rf.getD i (0, 0)).1)] (by as_aux_lemma => kernel_rfl) (by as_aux_lemma => kernel_rfl) (by as_aux_lemma => kernel_rfl) (viaP (p := (true = true → (0 ≤ ((i : Nat) : Int) ∧ ((i : Nat) : Int) < ((g.rf.length : Nat) : Int))) ∧ True) (by as_aux_lemma => kernel_rfl) ⟨fun _ => ⟨by omega, by omega⟩, trivial⟩) (by as_aux_lemma => kernel_rfl) (by as_aux_lemma => kernel_rfl) (by as_aux_lemma => kernel_rfl) (fun a w1 h => ?_) a w1 h
        rw [show (g.rf.getD i (0, 0)).1 = ((a1 : Nat) : Int) by rw [hgd]] at h
        refine Eng.reg_seq (E := lE (lM w V g fb)) [(218, LV.bo (wayX (g.evs.getD a1 Ev.zero).t (g.evs.getD (g.rf.getD i (0, 0)).2.toNat Ev.zero).t ((a1 : Nat) : Int) (g.rf.getD i (0, 0)).2))] (by as_aux_lemma => kernel_rfl) (by as_aux_lemma => kernel_rfl) (by as_aux_lemma => kernel_rfl) (viaP (p := (true = true → (0 ≤ ((a1 : Nat) : Int) ∧ ((a1 : Nat) : Int) < ((g.evs.length : Nat) : Int))) ∧ ((decide ((g.evs.getD a1 Ev.zero).t ≥ 0) == true && true) = true → (0 ≤ ((a1 : Nat) : Int) ∧ ((a1 : Nat) : Int) < ((g.evs.length : Nat) : Int))) ∧ ((decide ((g.evs.getD a1 Ev.zero).t ≥ 0) == true && true) = true → (0 ≤ ((i : Nat) : Int) ∧ ((i : Nat) : Int) < ((g.rf.length : Nat) : Int))) ∧ ((decide ((g.evs.getD a1 Ev.zero).t ≥ 0) == true && true) = true → (0 ≤ (g.rf.getD i (0, 0)).2 ∧ (g.rf.getD i (0, 0)).2 < ((g.evs.length : Nat) : Int))) ∧ (((if decide ((g.evs.getD a1 Ev.zero).t ≥ 0) then ((g.evs.getD a1 Ev.zero).t == (g.evs.getD (g.rf.getD i (0, 0)).2.toNat Ev.zero).t) else false) == true && true) = true → (0 ≤ ((i : Nat) : Int) ∧ ((i : Nat) : Int) < ((g.rf.length : Nat) : Int))) ∧ True) (by as_aux_lemma => kernel_rfl) ⟨fun _ => ⟨by omega, by omega⟩, fun c => ⟨by omega, by omega⟩, fun c => ⟨by omega, by omega⟩, fun c => ⟨by rw [hgd]; omega, by rw [hgd]; show ((b1 : Nat) : Int) < ((g.evs.length : Nat) : Int); omega⟩, fun c => ⟨by omega, by omega⟩, trivial⟩) (by as_aux_lemma => kernel_rfl) (by as_aux_lemma => kernel_rfl) (by as_aux_lemma => kernel_rfl) (fun a w1 h => ?_) a w1 h
        refine Eng.condk (E := lE (lM w V g fb)) 218 (wayX (g.evs.getD a1 Ev.zero).t (g.evs.getD (g.rf.getD i (0, 0)).2.toNat Ev.zero).t ((a1 : Nat) : Int) (g.rf.getD i (0, 0)).2) false (by as_aux_lemma => kernel_rfl) (by as_aux_lemma => kernel_rfl) (by rw [hgd]; exact hway) (fun hq => absurd hq (by decide)) (fun _ a w1 h => Go.wp_skip ?_) a w1 h
        replace h := h.to (LV.x 0 0) [(1, LV.b (GV.at 3 0)), (3, LV.x 1 0), (13, LV.nu ((i : Nat) : Int))] rfl rfl (by as_aux_lemma => kernel_rfl)
        refine Eng.reg_keep (E := lE (lM w V g fb)) [(13, LV.nu (((i + 1) : Nat) : Int))] (by as_aux_lemma => kernel_rfl) (by as_aux_lemma => kernel_rfl) (by as_aux_lemma => kernel_rfl) (viaP (p := (true = true → (-9223372036854775808 ≤ ((i : Nat) : Int) + 1 ∧ ((i : Nat) : Int) + 1 < 9223372036854775808)) ∧ True) (by as_aux_lemma => kernel_rfl) ⟨fun _ => ⟨by omega, by omega⟩, trivial⟩) (by as_aux_lemma => kernel_rfl) (by as_aux_lemma => kernel_rfl) (by as_aux_lemma => kernel_rfl) (fun a w1 h => ?_) a w1 h
        exact h.to (LV.x 0 0) [(1, LV.b (GV.at 3 0)), (3, LV.x 1 0), (13, LV.nu (((i + 1) : Nat) : Int))] rfl rfl (by as_aux_lemma => kernel_rfl)
      case refine_1 =>
      replace h := h.to (LV.x 0 0) [(1, LV.b (GV.at 3 0)), (3, LV.x 1 0)] rfl rfl (by as_aux_lemma => kernel_rfl)
      refine wp_seq (Eng.reg_seq (E := lE (lM w V g fb)) [(15, LV.nu ((0 : Nat) : Int))] (by as_aux_lemma => kernel_rfl) (by as_aux_lemma => kernel_rfl) (by as_aux_lemma => kernel_rfl) (viaP (p := True) (by as_aux_lemma => kernel_rfl) trivial) (by as_aux_lemma => kernel_rfl) (by as_aux_lemma => kernel_rfl) (by as_aux_lemma => kernel_rfl) (fun a w1 h => ?_) a w1 h)
      refine wp_for g.co.length (fun c a w1 => (lE (lM w V g fb)).Ga 297 w (upds (fun _ => LV.x 0 0) [(1, LV.b (GV.at 3 0)), (3, LV.x 1 0), (15, LV.nu ((c : Nat) : Int))]) a w1) (h.to (LV.x 0 0) [(1, LV.b (GV.at 3 0)), (3, LV.x 1 0), (15, LV.nu ((0 : Nat) : Int))] rfl rfl (by as_aux_lemma => kernel_rfl)) ?_
      clear h a w1 hq
      intro c a w1 hc h
      refine Eng.reg_keep (E := lE (lM w V g fb)) [(223, LV.bo (decide (((c : Nat) : Int) < ((g.co.length : Nat) : Int))))] (by as_aux_lemma => kernel_rfl) (by as_aux_lemma => kernel_rfl) (by as_aux_lemma => kernel_rfl) (viaP (p := True) (by as_aux_lemma => kernel_rfl) trivial) (by as_aux_lemma => kernel_rfl) (by as_aux_lemma => kernel_rfl) (by as_aux_lemma => kernel_rfl) (fun a w1 h => ?_) a w1 h
      refine ⟨_, lE_bo h 223 (decide (((c : Nat) : Int) < ((g.co.length : Nat) : Int))) (by as_aux_lemma => kernel_rfl), fun hq => ?_, fun hq => ⟨by simpa using hq, ?_⟩⟩
      case refine_2 =>
        have hcll : c < g.co.length := by simpa using hq
        obtain ⟨l, hl⟩ : ∃ l, g.co[c]? = some l := ⟨_, List.getElem?_eq_getElem hcll⟩
        have hgd : g.co.getD c [] = l := by rw [List.getD_eq_getElem?_getD, hl]; rfl
        have hll := hcl2 c l hl
        replace h := h.to (LV.x 0 0) [(1, LV.b (GV.at 3 0)), (3, LV.x 1 0), (15, LV.nu ((c : Nat) : Int))] rfl rfl (by as_aux_lemma => kernel_rfl)
        refine Eng.reg_seq (E := lE (lM w V g fb)) [(16, LV.nu ((0 : Nat) : Int))] (by as_aux_lemma => kernel_rfl) (by as_aux_lemma => kernel_rfl) (by as_aux_lemma => kernel_rfl) (viaP (p := True) (by as_aux_lemma => kernel_rfl) trivial) (by as_aux_lemma => kernel_rfl) (by as_aux_lemma => kernel_rfl) (by as_aux_lemma => kernel_rfl) (fun a w1 h => ?_) a w1 h
        refine wp_for l.length (fun i a w1 => (lE (lM w V g fb)).Ga 297 w (upds (fun _ => LV.x 0 0) [(1, LV.b (GV.at 3 0)), (3, LV.x 1 0), (15, LV.nu ((c : Nat) : Int)), (16, LV.nu ((i : Nat) : Int))]) a w1) (h.to (LV.x 0 0) [(1, LV.b (GV.at 3 0)), (3, LV.x 1 0), (15, LV.nu ((c : Nat) : Int)), (16, LV.nu ((0 : Nat) : Int))] rfl rfl (by as_aux_lemma => kernel_rfl)) ?_
        clear h a w1 hq
        intro i a w1 hi h
        refine Eng.reg_keep (E := lE (lM w V g fb)) [(233, LV.bo (decide (((i : Nat) : Int) < (((g.co.getD c []).length : Nat) : Int))))] (by as_aux_lemma => kernel_rfl) (by as_aux_lemma => kernel_rfl) (by as_aux_lemma => kernel_rfl) (viaP (p := (true = true → (0 ≤ ((c : Nat) : Int) ∧ ((c : Nat) : Int) < ((g.co.length : Nat) : Int))) ∧ True) (by as_aux_lemma => kernel_rfl) ⟨fun _ => ⟨by omega, by omega⟩, trivial⟩) (by as_aux_lemma => kernel_rfl) (by as_aux_lemma => kernel_rfl) (by as_aux_lemma => kernel_rfl) (fun a w1 h => ?_) a w1 h
        refine ⟨_, lE_bo h 233 (decide (((i : Nat) : Int) < (((g.co.getD c []).length : Nat) : Int))) (by as_aux_lemma => kernel_rfl), fun hq => ?_, fun hq => ?_⟩
        case refine_2 =>
          have hil : i < l.length := by rw [hgd] at hq; simpa using hq
          refine ⟨hil, ?_⟩
          replace h := h.to (LV.x 0 0) [(1, LV.b (GV.at 3 0)), (3, LV.x 1 0), (15, LV.nu ((c : Nat) : Int)), (16, LV.nu ((i : Nat) : Int))] rfl rfl (by as_aux_lemma => kernel_rfl)
          refine Eng.reg_seq (E := lE (lM w V g fb)) [(17, LV.nu (((i + 1) : Nat) : Int))] (by as_aux_lemma => kernel_rfl) (by as_aux_lemma => kernel_rfl) (by as_aux_lemma => kernel_rfl) (viaP (p := (true = true → (-9223372036854775808 ≤ ((i : Nat) : Int) + 1 ∧ ((i : Nat) : Int) + 1 < 9223372036854775808)) ∧ True) (by as_aux_lemma => kernel_rfl) ⟨fun _ => ⟨by omega, by omega⟩, trivial⟩) (by as_aux_lemma => kernel_rfl) (by as_aux_lemma => kernel_rfl) (by as_aux_lemma => kernel_rfl) (fun a w1 h => ?_) a w1 h
          refine wp_for (l.length - (i + 1)) (fun k a w1 => (lE (lM w V g fb)).Ga 297 w (upds (fun _ => LV.x 0 0) [(1, LV.b (GV.at 3 0)), (3, LV.x 1 0), (15, LV.nu ((c : Nat) : Int)), (16, LV.nu ((i : Nat) : Int)), (17, LV.nu (((i + 1 + k) : Nat) : Int))]) a w1) (h.to (LV.x 0 0) [(1, LV.b (GV.at 3 0)), (3, LV.x 1 0), (15, LV.nu ((c : Nat) : Int)), (16, LV.nu ((i : Nat) : Int)), (17, LV.nu (((i + 1) : Nat) : Int))] rfl rfl (by as_aux_lemma => kernel_rfl)) ?_
          clear h a w1 hq
          intro k a w1 hk h
          generalize hjk : i + 1 + k = j at h
          refine Eng.reg_keep (E := lE (lM w V g fb)) [(245, LV.bo (decide (((j : Nat) : Int) < (((g.co.getD c []).length : Nat) : Int))))] (by as_aux_lemma => kernel_rfl) (by as_aux_lemma => kernel_rfl) (by as_aux_lemma => kernel_rfl) (viaP (p := (true = true → (0 ≤ ((c : Nat) : Int) ∧ ((c : Nat) : Int) < ((g.co.length : Nat) : Int))) ∧ True) (by as_aux_lemma => kernel_rfl) ⟨fun _ => ⟨by omega, by omega⟩, trivial⟩) (by as_aux_lemma => kernel_rfl) (by as_aux_lemma => kernel_rfl) (by as_aux_lemma => kernel_rfl) (fun a w1 h => ?_) a w1 h
          refine ⟨_, lE_bo h 245 (decide (((j : Nat) : Int) < (((g.co.getD c []).length : Nat) : Int))) (by as_aux_lemma => kernel_rfl), fun hq => ?_, fun hq => ?_⟩
          case refine_2 =>
            have hjl : j < l.length := by rw [hgd] at hq; simpa using hq
            refine ⟨by omega, ?_⟩
            obtain ⟨a1, b1, hx, hy, ha, hb, hway⟩ := hco c i j l _ _ hl (by omega) (List.getElem?_eq_getElem hil) (List.getElem?_eq_getElem hjl)
            have hg1 : ((g.co.getD c []).getD i 0) = ((a1 : Nat) : Int) := by rw [hgd, List.getD_eq_getElem?_getD, List.getElem?_eq_getElem hil, hx]; rfl
            have hg2 : ((g.co.getD c []).getD j 0) = ((b1 : Nat) : Int) := by rw [hgd, List.getD_eq_getElem?_getD, List.getElem?_eq_getElem hjl, hy]; rfl
            replace h := h.to (LV.x 0 0) [(1, LV.b (GV.at 3 0)), (3, LV.x 1 0), (15, LV.nu ((c : Nat) : Int)), (16, LV.nu ((i : Nat) : Int)), (17, LV.nu ((j : Nat) : Int))] rfl rfl (by as_aux_lemma => kernel_rfl)
            refine Eng.reg_seq (E := lE (lM w V g fb)) [(18, LV.nu ((g.co.getD c []).getD i 0))] (by as_aux_lemma => kernel_rfl) (by as_aux_lemma => kernel_rfl) (by as_aux_lemma => kernel_rfl) (viaP (p := (true = true → (0 ≤ ((c : Nat) : Int) ∧ ((c : Nat) : Int) < ((g.co.length : Nat) : Int))) ∧ (true = true → (0 ≤ ((i : Nat) : Int) ∧ ((i : Nat) : Int) < (((g.co.getD c []).length : Nat) : Int))) ∧ True) (by as_aux_lemma => kernel_rfl) ⟨fun _ => ⟨by omega, by omega⟩, fun _ => ⟨by omega, by rw [hgd]; omega⟩, trivial⟩) (by as_aux_lemma => kernel_rfl) (by as_aux_lemma => kernel_rfl) (by as_aux_lemma => kernel_rfl) (fun a w1 h => ?_) a w1 h
            refine Eng.reg_seq (E := lE (lM w V g fb)) [(19, LV.nu ((g.co.getD c []).getD j 0))] (by as_aux_lemma => kernel_rfl) (by as_aux_lemma => kernel_rfl) (by as_aux_lemma => kernel_rfl) (viaP (p := (true = true → (0 ≤ ((c : Nat) : Int) ∧ ((c : Nat) : Int) < ((g.co.length : Nat) : Int))) ∧ (true = true → (0 ≤ ((j : Nat) : Int) ∧ ((j : Nat) : Int) < (((g.co.getD c []).length : Nat) : Int))) ∧ True) (by as_aux_lemma => kernel_rfl) ⟨fun _ => ⟨by omega, by omega⟩, fun _ => ⟨by omega, by rw [hgd]; omega⟩, trivial⟩) (by as_aux_lemma => kernel_rfl) (by as_aux_lemma => kernel_rfl) (by as_aux_lemma => kernel_rfl) (fun a w1 h => ?_) a w1 h
            rw [hg1, hg2] at h
            refine Eng.reg_seq (E := lE (lM w V g fb)) [(290, LV.bo (wayX (g.evs.getD a1 Ev.zero).t (g.evs.getD b1 Ev.zero).t ((a1 : Nat) : Int) ((b1 : Nat) : Int)))] (by as_aux_lemma => kernel_rfl) (by as_aux_lemma => kernel_rfl) (by as_aux_lemma => kernel_rfl) (viaP (p := (true = true → (0 ≤ ((a1 : Nat) : Int) ∧ ((a1 : Nat) : Int) < ((g.evs.length : Nat) : Int))) ∧ ((decide ((g.evs.getD a1 Ev.zero).t ≥ 0) == true && true) = true → (0 ≤ ((a1 : Nat) : Int) ∧ ((a1 : Nat) : Int) < ((g.evs.length : Nat) : Int))) ∧ ((decide ((g.evs.getD a1 Ev.zero).t ≥ 0) == true && true) = true → (0 ≤ ((b1 : Nat) : Int) ∧ ((b1 : Nat) : Int) < ((g.evs.length : Nat) : Int))) ∧ True) (by as_aux_lemma => kernel_rfl) ⟨fun _ => ⟨by omega, by omega⟩, fun c => ⟨by omega, by omega⟩, fun c => ⟨by omega, by omega⟩, trivial⟩) (by as_aux_lemma => kernel_rfl) (by as_aux_lemma => kernel_rfl) (by as_aux_lemma => kernel_rfl) (fun a w1 h => ?_) a w1 h
            refine Eng.condk (E := lE (lM w V g fb)) 290 (wayX (g.evs.getD a1 Ev.zero).t (g.evs.getD b1 Ev.zero).t ((a1 : Nat) : Int) ((b1 : Nat) : Int)) false (by as_aux_lemma => kernel_rfl) (by as_aux_lemma => kernel_rfl) hway (fun hq => absurd hq (by decide)) (fun _ a w1 h => Go.wp_skip ?_) a w1 h
            replace h := h.to (LV.x 0 0) [(1, LV.b (GV.at 3 0)), (3, LV.x 1 0), (15, LV.nu ((c : Nat) : Int)), (16, LV.nu ((i : Nat) : Int)), (17, LV.nu ((j : Nat) : Int))] rfl rfl (by as_aux_lemma => kernel_rfl)
            refine Eng.reg_keep (E := lE (lM w V g fb)) [(17, LV.nu (((j + 1) : Nat) : Int))] (by as_aux_lemma => kernel_rfl) (by as_aux_lemma => kernel_rfl) (by as_aux_lemma => kernel_rfl) (viaP (p := (true = true → (-9223372036854775808 ≤ ((j : Nat) : Int) + 1 ∧ ((j : Nat) : Int) + 1 < 9223372036854775808)) ∧ True) (by as_aux_lemma => kernel_rfl) ⟨fun _ => ⟨by omega, by omega⟩, trivial⟩) (by as_aux_lemma => kernel_rfl) (by as_aux_lemma => kernel_rfl) (by as_aux_lemma => kernel_rfl) (fun a w1 h => ?_) a w1 h
            rw [show j + 1 = i + 1 + (k + 1) by omega] at h
            exact h.to (LV.x 0 0) [(1, LV.b (GV.at 3 0)), (3, LV.x 1 0), (15, LV.nu ((c : Nat) : Int)), (16, LV.nu ((i : Nat) : Int)), (17, LV.nu (((i + 1 + (k + 1)) : Nat) : Int))] rfl rfl (by as_aux_lemma => kernel_rfl)
          case refine_1 =>
            replace h := h.to (LV.x 0 0) [(1, LV.b (GV.at 3 0)), (3, LV.x 1 0), (15, LV.nu ((c : Nat) : Int)), (16, LV.nu ((i : Nat) : Int))] rfl rfl (by as_aux_lemma => kernel_rfl)
            refine Eng.reg_keep (E := lE (lM w V g fb)) [(16, LV.nu (((i + 1) : Nat) : Int))] (by as_aux_lemma => kernel_rfl) (by as_aux_lemma => kernel_rfl) (by as_aux_lemma => kernel_rfl) (viaP (p := (true = true → (-9223372036854775808 ≤ ((i : Nat) : Int) + 1 ∧ ((i : Nat) : Int) + 1 < 9223372036854775808)) ∧ True) (by as_aux_lemma => kernel_rfl) ⟨fun _ => ⟨by omega, by omega⟩, trivial⟩) (by as_aux_lemma => kernel_rfl) (by as_aux_lemma => kernel_rfl) (by as_aux_lemma => kernel_rfl) (fun a w1 h => ?_) a w1 h
            exact h.to (LV.x 0 0) [(1, LV.b (GV.at 3 0)), (3, LV.x 1 0), (15, LV.nu ((c : Nat) : Int)), (16, LV.nu (((i + 1) : Nat) : Int))] rfl rfl (by as_aux_lemma => kernel_rfl)
        case refine_1 =>
          replace h := h.to (LV.x 0 0) [(1, LV.b (GV.at 3 0)), (3, LV.x 1 0), (15, LV.nu ((c : Nat) : Int))] rfl rfl (by as_aux_lemma => kernel_rfl)
          refine Eng.reg_keep (E := lE (lM w V g fb)) [(15, LV.nu (((c + 1) : Nat) : Int))] (by as_aux_lemma => kernel_rfl) (by as_aux_lemma => kernel_rfl) (by as_aux_lemma => kernel_rfl) (viaP (p := (true = true → (-9223372036854775808 ≤ ((c : Nat) : Int) + 1 ∧ ((c : Nat) : Int) + 1 < 9223372036854775808)) ∧ True) (by as_aux_lemma => kernel_rfl) ⟨fun _ => ⟨by omega, by omega⟩, trivial⟩) (by as_aux_lemma => kernel_rfl) (by as_aux_lemma => kernel_rfl) (by as_aux_lemma => kernel_rfl) (fun a w1 h => ?_) a w1 h
          exact h.to (LV.x 0 0) [(1, LV.b (GV.at 3 0)), (3, LV.x 1 0), (15, LV.nu (((c + 1) : Nat) : Int))] rfl rfl (by as_aux_lemma => kernel_rfl)
      case refine_1 =>
        replace h := h.to (LV.x 0 0) [(1, LV.b (GV.at 3 0)), (3, LV.x 1 0)] rfl rfl (by as_aux_lemma => kernel_rfl)
        refine wp_seq (Eng.reg_ret (E := lE (lM w V g fb)) (fn := Tryz.f7) (R := fun r w' => r = .returned (.bool true) ∧ Below w.heap.size w w') 2 (LV.bo (if loopsL (plusL (RL g 4)) == 0 then true else false)) (by as_aux_lemma => kernel_rfl) (by as_aux_lemma => kernel_rfl) (by as_aux_lemma => kernel_rfl) (viaP (p := True) (by as_aux_lemma => kernel_rfl) trivial) (by as_aux_lemma => kernel_rfl) (by as_aux_lemma => kernel_rfl) rfl (fun a w h => by exact wp_ret h) (fun N w' v hl hG hv => ⟨by rw [lE_rt hv, hacy]; rfl, hl⟩) a w1 h)
end Go.Proofs.YtmmadkghojoniaaGreatDoor
