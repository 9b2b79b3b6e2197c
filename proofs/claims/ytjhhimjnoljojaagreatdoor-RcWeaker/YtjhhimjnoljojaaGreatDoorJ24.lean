/- rc11's model: only, with, chain. -/
import Derived.Test.YtjhhimjnoljojaaGreatDoorJ22
import Derived.Test.YtjhhimjnoljojaaGreatDoorIdentWalk
import Derived.Test.YtjhhimjnoljojaaGreatDoorJ21
namespace Go.Proofs.YtjhhimjnoljojaaGreatDoor
open Go.RowKit Go.Shelf Sx
set_option maxRecDepth 100000 in
set_option maxHeartbeats 4000000 in
theorem rcOnly_calls (m n c0 : Nat) (p : Option Addr) (v : Value) (l : List Bool) (w : World) (hc : w.cell? ⟨m, 1, none⟩ = some (.slice p n c0)) (hS : SetAt w v l) (hT : Tab w) :
    Calls Tryz.prog 86 #[pv m, v] w fun e w' => ∃ b c, e = .returned (pv b) ∧ Made w w' b c (identL ((n : Nat) : Int) l) := by
  have D := hid_of (Ident_calls ((n : Nat) : Int) v l w hS hT)
  clear hS hT
  go_enter Tryz.func86, Tryz.ntmps86
  go_wp2_with fail
  refine D.out.mono ?_
  rintro e w1 ⟨b, c, rfl, hM⟩
  go_wp2_with fail
  go_ret
  exact ⟨b, c, rfl, hM⟩
theorem blk_set {w : World} {b : Nat} {l : List Bool} {cap : Nat} (h : Blk w b 4 (arrB l)) : SetAt w (.slice (some ⟨b, 0, none⟩) l.length cap) l :=
  .inr ⟨b, 0, cap, rfl, ⟨h.lt, fun i x hx => by rw [Nat.zero_add]; exact h.cell (by simp [arrB, hx])⟩⟩
def mdL (g : Gr) (ms : List Int) : List Bool := truL (fun e => ms.contains e.m) g.evs
theorem mdL_length (g : Gr) (ms : List Int) : (mdL g ms).length = g.evs.length := by simp [mdL, truL]
set_option maxRecDepth 100000 in
set_option maxHeartbeats 4000000 in
theorem rcWith_calls (m : Nat) (V : GrV) (g : Gr) (u : Value) (ms : List Int) (w : World) (h : GrR w V g) (hc : ∀ j v, (V.gs g)[j]? = some v → w.cell? ⟨m, j, none⟩ = some v) (hu : IntsR w u ms) (hm : ms.length ≤ 9223372036854775807) (hT : Tab w) :
    Calls Tryz.prog 85 #[pv m, u] w fun e w' => ∃ b c, e = .returned (pv b) ∧ Made w w' b c (identL ((g.evs.length : Nat) : Int) (mdL g ms)) := by
  obtain ⟨pu, cu, rfl, _⟩ := ir_form hu
  obtain ⟨Ve, Vr, Vc, Vm, Va, Vd, Vt⟩ := V
  obtain ⟨p1, k1, e1, _, _⟩ := h.ev
  obtain ⟨p2, k2, e2, _, _⟩ := parg_form h.rf
  obtain ⟨p4, k4, e4, _, _⟩ := parg_form h.rmw
  obtain ⟨p5, k5, e5, _, _⟩ := parg_form h.addr
  obtain ⟨p6, k6, e6, _, _⟩ := parg_form h.dat
  obtain ⟨p7, k7, e7, _, _⟩ := parg_form h.ctrl
  obtain ⟨p3, k3, e3, _, _⟩ := coarg_form h.co
  dsimp only at e1 e2 e3 e4 e5 e6 e7
  subst e1 e2 e3 e4 e5 e6 e7
  have d0 : w.cell? ⟨m, 0, none⟩ = some (.int .i64 g.cells) := hc 0 _ rfl
  have d1 : w.cell? ⟨m, 1, none⟩ = some (.slice p1 g.evs.length k1) := hc 1 _ rfl
  have d2 : w.cell? ⟨m, 2, none⟩ = some (.slice p2 g.rf.length k2) := hc 2 _ rfl
  have d3 : w.cell? ⟨m, 3, none⟩ = some (.slice p3 g.co.length k3) := hc 3 _ rfl
  have d4 : w.cell? ⟨m, 4, none⟩ = some (.slice p4 g.rmw.length k4) := hc 4 _ rfl
  have d5 : w.cell? ⟨m, 5, none⟩ = some (.slice p5 g.addr.length k5) := hc 5 _ rfl
  have d6 : w.cell? ⟨m, 6, none⟩ = some (.slice p6 g.dat.length k6) := hc 6 _ rfl
  have d7 : w.cell? ⟨m, 7, none⟩ = some (.slice p7 g.ctrl.length k7) := hc 7 _ rfl
  have D := hid_of (gWith_calls _ g _ ms w h hu hm)
  unfold GrV.val at D
  dsimp only at D
  have HT := hid_of hT
  clear h hc hu hT
  go_enter Tryz.func85, Tryz.ntmps85
  go_wp2_with fail
  refine D.out.mono ?_
  rintro e w1 ⟨gb, rfl, hg, hgl, hB⟩
  have d1' : w1.cell? ⟨m, 1, none⟩ = some (.slice p1 g.evs.length k1) := (hB.cell (p := ⟨m, 1, none⟩) (block_lt_of_cell d1)).trans d1
  have hS : SetAt w1 (.slice (some ⟨gb, 0, none⟩) g.evs.length g.evs.length) (mdL g ms) := by have := blk_set (cap := g.evs.length) hg; rw [show (truL (fun e => ms.contains e.m) g.evs) = mdL g ms from rfl, mdL_length] at this; exact this
  have D2 := hid_of (rcOnly_calls m g.evs.length k1 p1 _ _ w1 d1' hS (HT.out.step' hB))
  have HB := hid_of hB
  clear hS hg D hB d0 d1 d2 d3 d4 d5 d6 d7 d1'
  go_wp2_with fail
  refine D2.out.mono ?_
  rintro e w2 ⟨b, c, rfl, hM⟩
  go_wp2_with fail
  go_ret
  exact ⟨b, c, rfl, hM.rel, Nat.le_trans HB.out.size hM.hb, Nat.le_trans HB.out.size hM.hc, below_step HB.out HB.out.size hM.below⟩
def chainL (A : List Nat) (Ls : List (List Nat)) : List Nat := Ls.foldl compL A
set_option linter.unusedSimpArgs false in
set_option maxRecDepth 100000 in
set_option maxHeartbeats 4000000 in
theorem rcChain_calls (b0 c0 s : Nat) (A : List Nat) (rs : List (Nat × Nat × List Nat)) (w : World) (h0 : IsRel w b0 c0 A) (h : RelsAt w s rs) (hm : rs.length ≤ 1000) (hT : Tab w) :
    Calls Tryz.prog 84 #[pv b0, .slice (some ⟨s, 0, none⟩) rs.length rs.length] w fun e w' => ∃ b c, e = .returned (pv b) ∧ IsRel w' b c (chainL A (rs.map (·.2.2))) ∧ Below w.heap.size w w' := by
  have H0 := hid_of h0
  have H := hid_of h
  have HT := hid_of hT
  clear h0 h hT
  go_enter Tryz.func84, Tryz.ntmps84
  go_wp2_with fail
  go_loopg [5, 11] rs.length (fun f v5 v11 wr => ∃ (i b c : Nat), v11 = .int .i64 ((i : Nat) : Int) ∧ v5 = pv b ∧ i ≤ rs.length ∧ Hid (i + f = rs.length) ∧ Hid (Below w.heap.size w wr) ∧ Hid (IsRel wr b c (chainL A ((rs.take i).map (·.2.2)))))
  case atStart => exact ⟨0, b0, c0, rfl, rfl, Nat.zero_le _, Nat.zero_add _, Below.refl _ _, H0.out⟩
  case round =>
    obtain ⟨i, b, c, rfl, rfl, hi, HIF, HB, HR⟩ := hrel
    generalize hwq : wr = wa at *
    clear hwq
    by_cases hlt : i < rs.length
    · have I0 : (0 : Int) ≤ ((i : Nat) : Int) := by omega
      have I1 : ((i : Nat) : Int) < ((rs.length : Nat) : Int) := by omega
      obtain ⟨⟨bb, cb, L⟩, hx⟩ : ∃ x, rs[i]? = some x := ⟨_, List.getElem?_eq_getElem hlt⟩
      have hra := H.out.below HB.out
      have lc := hra.cell i _ hx
      have D := hid_of (Comp_calls b c bb cb _ L wa HR.out (hra.rel i _ hx) (HT.out.step' HB.out))
      have HX := hid_of hx
      clear hra hx
      dsimp only at lc
      go_wp2_with fail
      refine D.out.mono ?_
      rintro e w1 ⟨b2, c2, rfl, hM⟩
      go_wp2_with fail
      go_roundg (rs.length - (i + 1))
      case measure => have := HIF.out; omega
      case rel =>
        refine ⟨i + 1, b2, c2, by go_num, rfl, by omega, by have := HIF.out; rw [Hid]; omega, below_step HB.out HB.out.size hM.below, ?_⟩
        have := hM.rel
        rw [Hid, List.take_add_one, HX.out, Option.toList_some, List.map_append, chainL, List.foldl_append]
        exact this
    · obtain rfl : i = rs.length := by omega
      go_wp2_with fail
      go_ret
      have := HR.out
      rw [List.take_length] at this
      exact ⟨b, c, rfl, this, HB.out⟩
end Go.Proofs.YtjhhimjnoljojaaGreatDoor
namespace Go.Proofs.YtjhhimjnoljojaaGreatDoor
open Go.RowKit Go.Shelf Sx
theorem Touch.step {c : Nat} {w w1 w2 : World} (h : Touch c w w1) (hb : Below w1.heap.size w1 w2) : Touch c w w2 :=
  ⟨hb.os.trans h.os, hb.tape.trans h.tape, hb.output.trans h.output, Nat.le_trans h.size hb.size, fun k hk hc => (hb.block k (Nat.lt_of_lt_of_le hk h.size)).trans (h.block k hk hc)⟩
section
variable {P : Program} {ops : Array Oper} {Q : Exit → Act → World → Prop} {md : Region.Mode} {S : World → Prop} {o : Oper} {i : Nat} {rs : List Nat} {fuel : Nat} {listed : Array Bool} {a : Act} {w : World}
theorem rdy (ho : ops[i]? = some o) (h : ∀ K' : Act → World → Prop, Shut (∀ a w, S w → (S w → wpAnyH P md ops Q S fuel (listed.setIfInBounds i true) a w) → K' a w) → Oper.wp P o a w K' Q) (hs : AllReadyH P md ops Q S fuel listed a w rs)
    (hw : Region.wanted o (yielded ops a.tmps) = true := by kernel_rfl) : AllReadyH P md ops Q S fuel listed a w (i :: rs) :=
  AllReadyH.cons ho (fun K hK => by rw [if_pos hw]; exact h K hK) hs
theorem op_build {K : Act → World → Prop} {t : TypeId} {n : Nat} {ps : Array (Nat × Operand)} {d : Option Tmp} {ty : TypeId} {pos : String} {af : Array Edge} {gd : Option (Nat × Bool)} {v : Value} {w' : World} (vs : Array (Nat × Value)) (hv : ps.map (fun x => (x.1, a.eval x.2)) = vs)
    (hrun : (Instr.buildSlice t n vs).run P w = .ok v w') (hK : K (a.put d v) w') : Oper.wp P ⟨d, .buildSlice t n ps, ty, pos, af, gd⟩ a w K Q := by
  subst hv
  unfold Oper.wp
  simp only [execOp, Sem.run_bind, hrun, Result.andThen_ok, Sem.run_pure]
  exact hK
end
def Rels (w : World) (E : List (Nat × Nat × List Nat)) : Prop := ∀ x ∈ E, IsRel w x.1 x.2.1 x.2.2
theorem Rels.below {w w' : World} {E : List (Nat × Nat × List Nat)} (h : Rels w E) (hb : Below w.heap.size w w') : Rels w' E := fun x hx => (h x hx).below hb
theorem Rels.cons {w : World} {E : List (Nat × Nat × List Nat)} {b c : Nat} {L : List Nat} (h : Rels w E) (hr : IsRel w b c L) : Rels w ((b, c, L) :: E) := fun x hx => by
  rcases List.mem_cons.1 hx with rfl | hx
  · exact hr
  · exact h x hx
theorem blk_ne2 {w : World} {b g : Nat} {t u : TypeId} {cs ds : Array Value} (h : Blk w b t cs) (hg : Blk w g u ds) (ht : t ≠ u) : b ≠ g := by
  intro e
  subst e
  have := h.symm.trans hg
  simp at this
  exact ht this.2
theorem Rels.setM {w : World} {E : List (Nat × Nat × List Nat)} {m j : Nat} {old : Array Value} (h : Rels w E) (hm : Blk w m 87 old) (u : Value) : Rels (w.setCell ⟨m, j, none⟩ u) E := fun x hx => by
  have hr := h x hx
  exact ⟨hr.ne, hr.head.setOther (a := ⟨m, j, none⟩) (blk_ne2 hr.head hm (by decide)) u, hr.rows.setOther (a := ⟨m, j, none⟩) (blk_ne2 hr.rows hm (by decide)) u, hr.len, hr.low⟩
theorem Rels.nil (w : World) : Rels w [] := fun _ hx => absurd hx List.not_mem_nil
theorem rels_at {w : World} (rs : List (Nat × Nat × List Nat)) (h : Rels w rs) : RelsAt (w.alloc (.cells (rs.map (fun r => pv r.1)).toArray 43)) w.heap.size rs := by
  have hb := Blk.new w 43 (rs.map (fun r => pv r.1)).toArray
  refine ⟨fun i r hr => hb.cell (by simp [hr]), hb.lt, fun i r hr => (h r (List.mem_of_getElem? hr)).below ((Below.refl _ _).alloc (Nat.le_refl _) _)⟩
theorem ints_at (w : World) (ms : List Int) : IntsR (w.alloc (.cells (ms.map (fun x => .int .i64 x)).toArray 3)) (.slice (some ⟨w.heap.size, 0, none⟩) ms.length ms.length) ms := by
  have hb := Blk.new w 3 (ms.map (fun x => .int .i64 x)).toArray
  exact .inr ⟨w.heap.size, 0, ms.length, rfl, hb.lt, fun i x hx => by rw [Nat.zero_add]; exact hb.cell (by simp [hx])⟩
def fxC (n : Nat) (bs : Nat → Nat) (br bw bf : Nat) : Array Value := #[pv (bs 0), pv (bs 1), pv (bs 2), pv (bs 3), pv (bs 4), pv (bs 5), pv (bs 6), pv (bs 7), pv (bs 8), pv (bs 9), .slice (some ⟨br, 0, none⟩) n n, .slice (some ⟨bw, 0, none⟩) n n, .slice (some ⟨bf, 0, none⟩) n n]
def moC (V : GrV) (g : Gr) (bs : Nat → Nat) (br bw bf : Nat) (r : Nat → Value) : Array Value := #[.int .i64 g.cells, V.ev, V.rf, V.co, V.rmw, V.addr, V.dat, V.ctrl, pv (bs 0), pv (bs 1), pv (bs 2), pv (bs 3), pv (bs 4), pv (bs 5), pv (bs 6), pv (bs 7), pv (bs 8), pv (bs 9), .slice (some ⟨br, 0, none⟩) g.evs.length g.evs.length, .slice (some ⟨bw, 0, none⟩) g.evs.length g.evs.length, .slice (some ⟨bf, 0, none⟩) g.evs.length g.evs.length, r 0, r 1, r 2, r 3, r 4, r 5, r 6]
def updR (r : Nat → Value) (i : Nat) (u : Value) : Nat → Value := fun j => if j = i then u else r j
theorem moC_set (V : GrV) (g : Gr) (bs : Nat → Nat) (br bw bf : Nat) (r : Nat → Value) (i : Nat) (hi : i < 7) (u : Value) : (moC V g bs br bw bf r).setIfInBounds (21 + i) u = moC V g bs br bw bf (updR r i u) := by
  match i, hi with
  | 0, _ => rfl
  | 1, _ => rfl
  | 2, _ => rfl
  | 3, _ => rfl
  | 4, _ => rfl
  | 5, _ => rfl
  | 6, _ => rfl
  | n + 7, h => omega
structure Hp (w0 w : World) (m fb : Nat) (V : GrV) (g : Gr) (bs : Nat → Nat) (br bw bf : Nat) (r : Nat → Value) (E : List (Nat × Nat × List Nat)) (wk : World) : Prop where
  low : Below w0.heap.size w0 wk
  tch : Touch m w wk
  mo : Blk wk m 87 (moC V g bs br bw bf r)
  fx : Blk wk fb 85 (fxC g.evs.length bs br bw bf)
  rd : Blk wk br 4 (arrB (kndL g 1))
  wt : Blk wk bw 4 (arrB (kndL g 2))
  fe : Blk wk bf 4 (arrB (kndL g 3))
  rel : Rels wk E
section
variable {w0 w wk wk' : World} {m fb : Nat} {V : GrV} {g : Gr} {bs : Nat → Nat} {br bw bf : Nat} {r : Nat → Value} {E : List (Nat × Nat × List Nat)}
theorem Hp.step (h : Hp w0 w m fb V g bs br bw bf r E wk) (hb : Below wk.heap.size wk wk') : Hp w0 w m fb V g bs br bw bf r E wk' :=
  ⟨below_step h.low h.low.size hb, h.tch.step hb, h.mo.of_below hb, h.fx.of_below hb, h.rd.of_below hb, h.wt.of_below hb, h.fe.of_below hb, h.rel.below hb⟩
theorem Hp.drew (h : Hp w0 w m fb V g bs br bw bf r E wk) : Hp w0 w m fb V g bs br bw bf r E wk.drew := h.step (Below.refl _ _).drew
theorem Hp.add {b c : Nat} {L : List Nat} (h : Hp w0 w m fb V g bs br bw bf r E wk) (hr : IsRel wk b c L) : Hp w0 w m fb V g bs br bw bf r ((b, c, L) :: E) wk := { h with rel := h.rel.cons hr }
theorem Hp.made {b c : Nat} {L : List Nat} (h : Hp w0 w m fb V g bs br bw bf r E wk) (hM : Made wk wk' b c L) : Hp w0 w m fb V g bs br bw bf r ((b, c, L) :: E) wk' := (h.step hM.below).add hM.rel
theorem Hp.alloc (h : Hp w0 w m fb V g bs br bw bf r E wk) (o : Obj) : Hp w0 w m fb V g bs br bw bf r E (wk.alloc o) := h.step ((Below.refl _ _).alloc (Nat.le_refl _) _)
theorem Hp.put (h : Hp w0 w m fb V g bs br bw bf r E wk) (hm : w0.heap.size ≤ m) (i : Nat) (hi : i < 7) (u : Value) : Hp w0 w m fb V g bs br bw bf (updR r i u) E (wk.setCell ⟨m, 21 + i, none⟩ u) :=
  ⟨h.low.setCell hm _, h.tch.set u, by have := h.mo.set (21 + i) u; rw [moC_set _ _ _ _ _ _ _ i hi] at this; exact this,
    h.fx.setOther (a := ⟨m, 21 + i, none⟩) (blk_ne2 h.fx h.mo (by decide)) u, h.rd.setOther (a := ⟨m, 21 + i, none⟩) (blk_ne2 h.rd h.mo (by decide)) u, h.wt.setOther (a := ⟨m, 21 + i, none⟩) (blk_ne2 h.wt h.mo (by decide)) u, h.fe.setOther (a := ⟨m, 21 + i, none⟩) (blk_ne2 h.fe h.mo (by decide)) u, h.rel.setM h.mo u⟩
theorem Hp.at_ (h : Hp w0 w m fb V g bs br bw bf r E wk) {b c : Nat} {L : List Nat} (hx : (b, c, L) ∈ E) : IsRel wk b c L := h.rel _ hx
end
section
variable {w0 w wk : World} {m fb : Nat} {V : GrV} {g : Gr} {bs : Nat → Nat} {br bw bf : Nat} {r : Nat → Value} {E : List (Nat × Nat × List Nat)}
theorem Hp.calls_made {f : FuncId} {args : Array Value} {L : List Nat} (h : Hp w0 w m fb V g bs br bw bf r E wk) (L' : List Nat) (D : Calls Tryz.prog f args wk fun e w' => ∃ b c, e = .returned (pv b) ∧ Made wk w' b c L) (hL : L = L') :
    Calls Tryz.prog f args wk fun e w' => ∃ b c, e = .returned (pv b) ∧ Hid (Hp w0 w m fb V g bs br bw bf r ((b, c, L') :: E) w') ∧ Hid (Below wk.heap.size wk w') := by
  subst hL
  exact D.mono fun e w' ⟨b, c, h1, h2⟩ => ⟨b, c, h1, h.made h2, h2.below⟩
theorem Hp.calls_rel {f : FuncId} {args : Array Value} {L : List Nat} (h : Hp w0 w m fb V g bs br bw bf r E wk) (L' : List Nat) (D : Calls Tryz.prog f args wk fun e w' => ∃ b c, e = .returned (pv b) ∧ IsRel w' b c L ∧ Below wk.heap.size wk w') (hL : L = L') :
    Calls Tryz.prog f args wk fun e w' => ∃ b c, e = .returned (pv b) ∧ Hid (Hp w0 w m fb V g bs br bw bf r ((b, c, L') :: E) w') ∧ Hid (Below wk.heap.size wk w') := by
  subst hL
  exact D.mono fun e w' ⟨b, c, h1, h2, h3⟩ => ⟨b, c, h1, (h.step h3).add h2, h3⟩
end
theorem map3_nil : ([] : List (Nat × Nat × List Nat)).map (·.2.2) = [] := rfl
theorem map3_cons {b c : Nat} {L : List Nat} {t : List (Nat × Nat × List Nat)} {T : List (List Nat)} (h : t.map (·.2.2) = T) : ((b, c, L) :: t).map (·.2.2) = L :: T := by rw [List.map_cons, h]
theorem rcChain_named (b0 c0 s : Nat) (A : List Nat) (rs : List (Nat × Nat × List Nat)) (Lv : List (List Nat)) (hv : rs.map (·.2.2) = Lv) (w : World) (h0 : IsRel w b0 c0 A) (h : RelsAt w s rs) (hm : rs.length ≤ 1000) (hT : Tab w) :
    Calls Tryz.prog 84 #[pv b0, .slice (some ⟨s, 0, none⟩) rs.length rs.length] w fun e w' => ∃ b c, e = .returned (pv b) ∧ IsRel w' b c (chainL A Lv) ∧ Below w.heap.size w w' := by
  subst hv
  exact rcChain_calls b0 c0 s A rs w h0 h hm hT
theorem Union_named (s : Nat) (rs : List (Nat × Nat × List Nat)) (Lv : List (List Nat)) (hv : rs.map (·.2.2) = Lv) (w : World) (h : RelsAt w s rs) (hm : rs.length ≤ 1000) :
    Calls Tryz.prog 31 #[.slice (some ⟨s, 0, none⟩) rs.length rs.length] w fun e w' => ∃ b c, e = .returned (pv b) ∧ Made w w' b c (unionL Lv) := by
  subst hv
  exact Union_calls s rs w h hm
theorem knd_set {w : World} {b : Nat} {g : Gr} {x : Int} (h : Blk w b 4 (arrB (kndL g x))) : SetAt w (.slice (some ⟨b, 0, none⟩) g.evs.length g.evs.length) (kndL g x) := by
  have := blk_set (cap := g.evs.length) h
  rw [kndL_length] at this
  exact this
set_option maxRecDepth 100000 in
set_option maxHeartbeats 4000000 in
theorem bi1_run (x : Int) (W : World) : (Instr.buildSlice 35 1 #[(0, .int .i64 x)]).run Tryz.prog W = .ok (.slice (some ⟨W.heap.size, 0, none⟩) 1 1) (W.alloc (.cells #[.int .i64 x] 3)) := by
  go_simp
set_option maxRecDepth 100000 in
set_option maxHeartbeats 4000000 in
theorem bs1_run (a : Nat) (W : World) : (Instr.buildSlice 57 1 #[(0, pv a)]).run Tryz.prog W = .ok (.slice (some ⟨W.heap.size, 0, none⟩) 1 1) (W.alloc (.cells #[pv a] 43)) := by
  go_simp
set_option maxRecDepth 100000 in
set_option maxHeartbeats 4000000 in
theorem bs2_run (a b : Nat) (W : World) : (Instr.buildSlice 57 2 #[(0, pv a), (1, pv b)]).run Tryz.prog W = .ok (.slice (some ⟨W.heap.size, 0, none⟩) 2 2) (W.alloc (.cells #[pv a, pv b] 43)) := by
  go_simp
set_option maxRecDepth 100000 in
set_option maxHeartbeats 4000000 in
theorem bs3_run (a b c : Nat) (W : World) : (Instr.buildSlice 57 3 #[(0, pv a), (1, pv b), (2, pv c)]).run Tryz.prog W = .ok (.slice (some ⟨W.heap.size, 0, none⟩) 3 3) (W.alloc (.cells #[pv a, pv b, pv c] 43)) := by
  go_simp
set_option maxRecDepth 100000 in
set_option maxHeartbeats 4000000 in
theorem bs5_run (a b c d e : Nat) (W : World) : (Instr.buildSlice 57 5 #[(0, pv a), (1, pv b), (2, pv c), (3, pv d), (4, pv e)]).run Tryz.prog W = .ok (.slice (some ⟨W.heap.size, 0, none⟩) 5 5) (W.alloc (.cells #[pv a, pv b, pv c, pv d, pv e] 43)) := by
  go_simp
set_option maxRecDepth 100000 in
set_option maxHeartbeats 4000000 in
theorem bs6_run (a b c d e f : Nat) (W : World) : (Instr.buildSlice 57 6 #[(0, pv a), (1, pv b), (2, pv c), (3, pv d), (4, pv e), (5, pv f)]).run Tryz.prog W = .ok (.slice (some ⟨W.heap.size, 0, none⟩) 6 6) (W.alloc (.cells #[pv a, pv b, pv c, pv d, pv e, pv f] 43)) := by
  go_simp
end Go.Proofs.YtjhhimjnoljojaaGreatDoor
namespace Go.Proofs.YtjhhimjnoljojaaGreatDoor
open Go.RowKit Go.Shelf Sx
section
variable (g : Gr) (Ls : Nat → List Nat)
def wrI : List Nat := identL ((g.evs.length : Nat) : Int) (kndL g 2)
def rdI : List Nat := identL ((g.evs.length : Nat) : Int) (kndL g 1)
def feI : List Nat := identL ((g.evs.length : Nat) : Int) (kndL g 3)
def mrI : List Nat := identL ((g.evs.length : Nat) : Int) (mdL g [3, 4, 5])
def maI : List Nat := identL ((g.evs.length : Nat) : Int) (mdL g [2, 4, 5])
def urL : List Nat := unionL [wrI g, feI g]
def uaL : List Nat := unionL [rdI g, feI g]
def relL : List Nat := chainL (mrI g) [urL g]
def acqL : List Nat := chainL (maI g) [uaL g]
def plL : List Nat := interL (Ls 0) (Ls 5)
def rrL : List Nat := chainL (Ls 1) [Ls 4]
def srrL : List Nat := optL (plusL (rrL Ls))
def rsL : List Nat := chainL (wrI g) [optL (plL Ls), wrI g, srrL Ls]
def fpL : List Nat := chainL (feI g) [Ls 0]
def pfL : List Nat := chainL (Ls 0) [feI g]
def swL : List Nat := chainL (relL g) [optL (fpL g Ls), rsL g Ls, Ls 1, rdI g, optL (pfL g Ls), acqL g]
def uhL : List Nat := unionL [Ls 0, swL g Ls]
def hbL : List Nat := plusL (uhL g Ls)
def ueL : List Nat := unionL [Ls 1, Ls 2, Ls 3]
def ecoL : List Nat := plusL (ueL Ls)
end
theorem urL_eq (g : Gr) : unionL [wrI g, feI g] = urL g := rfl
theorem uaL_eq (g : Gr) : unionL [rdI g, feI g] = uaL g := rfl
theorem relL_eq (g : Gr) : chainL (mrI g) [urL g] = relL g := rfl
theorem acqL_eq (g : Gr) : chainL (maI g) [uaL g] = acqL g := rfl
theorem rrL_eq (Ls : Nat → List Nat) : chainL (Ls 1) [Ls 4] = rrL Ls := rfl
theorem rsL_eq (g : Gr) (Ls : Nat → List Nat) : chainL (wrI g) [optL (plL Ls), wrI g, srrL Ls] = rsL g Ls := rfl
theorem fpL_eq (g : Gr) (Ls : Nat → List Nat) : chainL (feI g) [Ls 0] = fpL g Ls := rfl
theorem pfL_eq (g : Gr) (Ls : Nat → List Nat) : chainL (Ls 0) [feI g] = pfL g Ls := rfl
theorem swL_eq (g : Gr) (Ls : Nat → List Nat) : chainL (relL g) [optL (fpL g Ls), rsL g Ls, Ls 1, rdI g, optL (pfL g Ls), acqL g] = swL g Ls := rfl
theorem uhL_eq (g : Gr) (Ls : Nat → List Nat) : unionL [Ls 0, swL g Ls] = uhL g Ls := rfl
theorem ueL_eq (Ls : Nat → List Nat) : unionL [Ls 1, Ls 2, Ls 3] = ueL Ls := rfl
theorem mo_gs {w : World} {m : Nat} {V : GrV} {g : Gr} {bs : Nat → Nat} {br bw bf : Nat} {r : Nat → Value} (h : Blk w m 87 (moC V g bs br bw bf r)) : ∀ j v, (V.gs g)[j]? = some v → w.cell? ⟨m, j, none⟩ = some v := by
  intro j v hj
  match j, hj with
  | 0, hj => exact h.cell hj
  | 1, hj => exact h.cell hj
  | 2, hj => exact h.cell hj
  | 3, hj => exact h.cell hj
  | 4, hj => exact h.cell hj
  | 5, hj => exact h.cell hj
  | 6, hj => exact h.cell hj
  | 7, hj => exact h.cell hj
  | n + 8, hj => simp [GrV.gs] at hj
set_option linter.unusedSimpArgs false in
set_option linter.unusedVariables false in
set_option maxRecDepth 100000 in
set_option maxHeartbeats 16000000 in
theorem rcHap_calls (w0 w : World) (m : Nat) (V : GrV) (g : Gr) (bs cs : Nat → Nat) (Ls : Nat → List Nat) (br bw bf : Nat) (r : Nat → Value) (h0 : GrR w0 V g) (hT0 : Tab w0) (hm0 : w0.heap.size ≤ m) (hlow : Below w0.heap.size w0 w)
    (hmo : Blk w m 87 (moC V g bs br bw bf r)) (hrd : Blk w br 4 (arrB (kndL g 1))) (hwt : Blk w bw 4 (arrB (kndL g 2))) (hfe : Blk w bf 4 (arrB (kndL g 3)))
    (hE : Rels w [(bs 0, cs 0, Ls 0), (bs 1, cs 1, Ls 1), (bs 2, cs 2, Ls 2), (bs 3, cs 3, Ls 3), (bs 4, cs 4, Ls 4), (bs 5, cs 5, Ls 5)]) :
    Calls Tryz.prog 79 #[pv m] w fun e w' => e = .returned (.tuple #[]) ∧ ∃ b1 c1 b2 c2 b3 c3 b4 c4, Rels w' [(b4, c4, ecoL Ls), (b3, c3, hbL g Ls), (b2, c2, swL g Ls), (b1, c1, rsL g Ls)] ∧ Blk w' m 87 (moC V g bs br bw bf (updR (updR (updR (updR r 0 (pv b1)) 1 (pv b2)) 2 (pv b3)) 3 (pv b4))) ∧ Touch m w w' := by
  obtain ⟨Ve, Vr, Vc, Vm, Va, Vd, Vt⟩ := V
  obtain ⟨p1, k1, e1, _, _⟩ := h0.ev
  dsimp only at e1
  subst e1
  have H0 := hid_of h0
  have HT := hid_of hT0
  have c0 : w.cell? ⟨m, 8, none⟩ = some (pv (bs 0)) := hmo.cell rfl
  have c1 : w.cell? ⟨m, 9, none⟩ = some (pv (bs 1)) := hmo.cell rfl
  have c2 : w.cell? ⟨m, 10, none⟩ = some (pv (bs 2)) := hmo.cell rfl
  have c3 : w.cell? ⟨m, 11, none⟩ = some (pv (bs 3)) := hmo.cell rfl
  have c4 : w.cell? ⟨m, 12, none⟩ = some (pv (bs 4)) := hmo.cell rfl
  have c5 : w.cell? ⟨m, 13, none⟩ = some (pv (bs 5)) := hmo.cell rfl
  have c6 : w.cell? ⟨m, 14, none⟩ = some (pv (bs 6)) := hmo.cell rfl
  have c7 : w.cell? ⟨m, 15, none⟩ = some (pv (bs 7)) := hmo.cell rfl
  have c8 : w.cell? ⟨m, 16, none⟩ = some (pv (bs 8)) := hmo.cell rfl
  have c9 : w.cell? ⟨m, 17, none⟩ = some (pv (bs 9)) := hmo.cell rfl
  have c10 : w.cell? ⟨m, 18, none⟩ = some (.slice (some ⟨br, 0, none⟩) g.evs.length g.evs.length) := hmo.cell rfl
  have c11 : w.cell? ⟨m, 19, none⟩ = some (.slice (some ⟨bw, 0, none⟩) g.evs.length g.evs.length) := hmo.cell rfl
  have c12 : w.cell? ⟨m, 20, none⟩ = some (.slice (some ⟨bf, 0, none⟩) g.evs.length g.evs.length) := hmo.cell rfl
  have hBz : Below w.heap.size w (w.alloc (.cells #[pv (bs 0), pv (bs 1), pv (bs 2), pv (bs 3), pv (bs 4), pv (bs 5), pv (bs 6), pv (bs 7), pv (bs 8), pv (bs 9), .slice (some ⟨br, 0, none⟩) g.evs.length g.evs.length, .slice (some ⟨bw, 0, none⟩) g.evs.length g.evs.length, .slice (some ⟨bf, 0, none⟩) g.evs.length g.evs.length] 85)) := (Below.refl _ _).alloc (Nat.le_refl _) _
  have HP0 : Hid (Hp w0 w m w.heap.size ⟨.slice p1 g.evs.length k1, Vr, Vc, Vm, Va, Vd, Vt⟩ g bs br bw bf (r) [(bs 0, cs 0, Ls 0), (bs 1, cs 1, Ls 1), (bs 2, cs 2, Ls 2), (bs 3, cs 3, Ls 3), (bs 4, cs 4, Ls 4), (bs 5, cs 5, Ls 5)] (w.alloc (.cells #[pv (bs 0), pv (bs 1), pv (bs 2), pv (bs 3), pv (bs 4), pv (bs 5), pv (bs 6), pv (bs 7), pv (bs 8), pv (bs 9), .slice (some ⟨br, 0, none⟩) g.evs.length g.evs.length, .slice (some ⟨bw, 0, none⟩) g.evs.length g.evs.length, .slice (some ⟨bf, 0, none⟩) g.evs.length g.evs.length] 85))) := ⟨below_step hlow hlow.size hBz, Touch.of_below hBz, hmo.of_below hBz, Blk.new w 85 _, hrd.of_below hBz, hwt.of_below hBz, hfe.of_below hBz, hE.below hBz⟩
  clear h0 hT0 hlow hmo hrd hwt hfe hE hBz
  go_enter Tryz.func79, Tryz.ntmps79
  go_upto_region 1 with fail
  clear c0 c1 c2 c3 c4 c5 c6 c7 c8 c9 c10 c11 c12
  generalize w.alloc (.cells #[pv (bs 0), pv (bs 1), pv (bs 2), pv (bs 3), pv (bs 4), pv (bs 5), pv (bs 6), pv (bs 7), pv (bs 8), pv (bs 9), .slice (some ⟨br, 0, none⟩) g.evs.length g.evs.length, .slice (some ⟨bw, 0, none⟩) g.evs.length g.evs.length, .slice (some ⟨bf, 0, none⟩) g.evs.length g.evs.length] 85) = W0 at *
  have HP1 := hid_of HP0.out.drew
  clear HP0
  refine wp_region_held_drew (S := fun W => W.cell? ⟨w.heap.size, 11, none⟩ = some (.slice (some ⟨bw, 0, none⟩) g.evs.length g.evs.length) ∧ W.cell? ⟨w.heap.size, 10, none⟩ = some (.slice (some ⟨br, 0, none⟩) g.evs.length g.evs.length) ∧ W.cell? ⟨w.heap.size, 12, none⟩ = some (.slice (some ⟨bf, 0, none⟩) g.evs.length g.evs.length)) (by kernel_rfl) ⟨(HP1.out.fx.cell rfl), (HP1.out.fx.cell rfl), (HP1.out.fx.cell rfl)⟩ (fun hHeld => ?_)
  generalize W0.drew = W1 at *
  refine tk 0 rfl ?_; simp only [zz]
  refine tk 1 rfl ?_; simp only [zz]
  refine tk 2 rfl ?_; simp only [zz]
  refine tk 4 rfl ?_; simp only [zz]
  refine tk 5 rfl ?_; simp only [zz]
  refine tk 6 rfl ?_; simp only [zz]
  refine tk 8 rfl ?_; simp only [zz]
  refine tk 9 rfl ?_; simp only [zz]
  refine tk 10 rfl ?_; simp only [zz]
  refine wpAnyH_ready (rs := [3]) (by kernel_rfl) (by simp) ?_
  refine rdy rfl (fun K hK => ?_) AllReadyH.nil
  simp only [z1, z2, z3]
  go_simp
  refine (HP1.out.calls_made (wrI g) (rcOnly_calls m g.evs.length k1 p1 _ (kndL g 2) W1 (HP1.out.mo.cell rfl) (knd_set HP1.out.wt) (HT.out.step' HP1.out.low)) (rfl)).mono ?_
  rintro e W2 ⟨bwr, cwr, rfl, HP2, HB2⟩
  clear HP1 HB2
  clear hHeld
  refine hK.out _ _ ⟨(HP2.out.fx.cell rfl), (HP2.out.fx.cell rfl), (HP2.out.fx.cell rfl)⟩ (fun hHeld => ?_)
  clear hK K
  try simp only [zz]
  refine wpAnyH_ready (rs := [7]) (by kernel_rfl) (by simp) ?_
  refine rdy rfl (fun K hK => ?_) AllReadyH.nil
  simp only [z1, z2, z3]
  go_simp
  refine (HP2.out.calls_made (rdI g) (rcOnly_calls m g.evs.length k1 p1 _ (kndL g 1) W2 (HP2.out.mo.cell rfl) (knd_set HP2.out.rd) (HT.out.step' HP2.out.low)) (rfl)).mono ?_
  rintro e W3 ⟨brd, crd, rfl, HP3, HB3⟩
  clear HP2 HB3
  clear hHeld
  refine hK.out _ _ ⟨(HP3.out.fx.cell rfl), (HP3.out.fx.cell rfl), (HP3.out.fx.cell rfl)⟩ (fun hHeld => ?_)
  clear hK K
  try simp only [zz]
  refine wpAnyH_ready (rs := [11]) (by kernel_rfl) (by simp) ?_
  refine rdy rfl (fun K hK => ?_) AllReadyH.nil
  simp only [z1, z2, z3]
  go_simp
  refine (HP3.out.calls_made (feI g) (rcOnly_calls m g.evs.length k1 p1 _ (kndL g 3) W3 (HP3.out.mo.cell rfl) (knd_set HP3.out.fe) (HT.out.step' HP3.out.low)) (rfl)).mono ?_
  rintro e W4 ⟨bfe, cfe, rfl, HP4, HB4⟩
  clear HP3 HB4
  clear hHeld
  refine hK.out _ _ ⟨(HP4.out.fx.cell rfl), (HP4.out.fx.cell rfl), (HP4.out.fx.cell rfl)⟩ (fun hHeld => ?_)
  clear hK K
  try simp only [zz]
  refine tk 12 rfl ?_; simp only [zz]
  refine tk 13 rfl ?_; simp only [zz]
  refine tk 14 rfl ?_; simp only [zz]
  refine wpAnyH_done (by kernel_rfl) ?_ _
  clear hHeld
  go_wp2_with fail
  have HP5 := hid_of (HP4.out.alloc (.cells #[.int .i64 3, .int .i64 4, .int .i64 5] 3))
  have HI5 : Hid (IntsR (W4.alloc (.cells #[.int .i64 3, .int .i64 4, .int .i64 5] 3)) (.slice (some ⟨W4.heap.size, 0, none⟩) 3 3) [3, 4, 5]) := ints_at W4 [3, 4, 5]
  clear HP4
  generalize W4.alloc (.cells #[.int .i64 3, .int .i64 4, .int .i64 5] 3) = W5 at *
  generalize W4.heap.size = s5 at *
  refine (HP5.out.calls_made (mrI g) (rcWith_calls m _ g _ [3, 4, 5] _ (H0.out.below HP5.out.low) (mo_gs HP5.out.mo) HI5.out (by simp) (HT.out.step' HP5.out.low)) (rfl)).mono ?_
  rintro e W6 ⟨bmr, cmr, rfl, HP6, HB6⟩
  clear HP5 HB6
  clear HI5
  go_wp2_with fail
  have HP7 := hid_of (HP6.out.alloc (.cells #[pv bwr, pv bfe] 43))
  have HLk_7 : Hid (RelsAt (W6.alloc (.cells #[pv bwr, pv bfe] 43)) W6.heap.size [(bwr, cwr, wrI g), (bfe, cfe, feI g)]) := rels_at [(bwr, cwr, wrI g), (bfe, cfe, feI g)] ((Rels.cons (Rels.cons (Rels.nil _) (HP6.out.at_ (b := bfe) (c := cfe) (L := feI g) (.tail _ (.head _)))) (HP6.out.at_ (b := bwr) (c := cwr) (L := wrI g) (.tail _ (.tail _ (.tail _ (.head _)))))))
  clear HP6
  generalize W6.alloc (.cells #[pv bwr, pv bfe] 43) = W7 at *
  generalize W6.heap.size = s7 at *
  refine (HP7.out.calls_made (urL g) (Union_named s7 [(bwr, cwr, wrI g), (bfe, cfe, feI g)] [wrI g, feI g] (map3_cons (map3_cons (map3_nil))) _ HLk_7.out (by simp)) (urL_eq ..)).mono ?_
  rintro e W8 ⟨bur, cur, rfl, HP8, HB8⟩
  clear HP7 HB8
  clear HLk_7
  go_wp2_with fail
  have HP9 := hid_of (HP8.out.alloc (.cells #[pv bur] 43))
  have HLk_9 : Hid (RelsAt (W8.alloc (.cells #[pv bur] 43)) W8.heap.size [(bur, cur, urL g)]) := rels_at [(bur, cur, urL g)] ((Rels.cons (Rels.nil _) (HP8.out.at_ (b := bur) (c := cur) (L := urL g) (.head _))))
  clear HP8
  generalize W8.alloc (.cells #[pv bur] 43) = W9 at *
  generalize W8.heap.size = s9 at *
  refine (HP9.out.calls_rel (relL g) (rcChain_named (bmr) (cmr) s9 (mrI g) [(bur, cur, urL g)] [urL g] (map3_cons (map3_nil)) _ (HP9.out.at_ (.tail _ (.head _))) HLk_9.out (by simp) (HT.out.step' HP9.out.low)) (relL_eq ..)).mono ?_
  rintro e W10 ⟨brel, crel, rfl, HP10, HB10⟩
  clear HP9 HB10
  clear HLk_9
  go_wp2_with fail
  have HP11 := hid_of (HP10.out.alloc (.cells #[.int .i64 2, .int .i64 4, .int .i64 5] 3))
  have HI11 : Hid (IntsR (W10.alloc (.cells #[.int .i64 2, .int .i64 4, .int .i64 5] 3)) (.slice (some ⟨W10.heap.size, 0, none⟩) 3 3) [2, 4, 5]) := ints_at W10 [2, 4, 5]
  clear HP10
  generalize W10.alloc (.cells #[.int .i64 2, .int .i64 4, .int .i64 5] 3) = W11 at *
  generalize W10.heap.size = s11 at *
  refine (HP11.out.calls_made (maI g) (rcWith_calls m _ g _ [2, 4, 5] _ (H0.out.below HP11.out.low) (mo_gs HP11.out.mo) HI11.out (by simp) (HT.out.step' HP11.out.low)) (rfl)).mono ?_
  rintro e W12 ⟨bma, cma, rfl, HP12, HB12⟩
  clear HP11 HB12
  clear HI11
  go_wp2_with fail
  have HP13 := hid_of (HP12.out.alloc (.cells #[pv brd, pv bfe] 43))
  have HLk_13 : Hid (RelsAt (W12.alloc (.cells #[pv brd, pv bfe] 43)) W12.heap.size [(brd, crd, rdI g), (bfe, cfe, feI g)]) := rels_at [(brd, crd, rdI g), (bfe, cfe, feI g)] ((Rels.cons (Rels.cons (Rels.nil _) (HP12.out.at_ (b := bfe) (c := cfe) (L := feI g) (.tail _ (.tail _ (.tail _ (.tail _ (.head _))))))) (HP12.out.at_ (b := brd) (c := crd) (L := rdI g) (.tail _ (.tail _ (.tail _ (.tail _ (.tail _ (.head _)))))))))
  clear HP12
  generalize W12.alloc (.cells #[pv brd, pv bfe] 43) = W13 at *
  generalize W12.heap.size = s13 at *
  refine (HP13.out.calls_made (uaL g) (Union_named s13 [(brd, crd, rdI g), (bfe, cfe, feI g)] [rdI g, feI g] (map3_cons (map3_cons (map3_nil))) _ HLk_13.out (by simp)) (uaL_eq ..)).mono ?_
  rintro e W14 ⟨bua, cua, rfl, HP14, HB14⟩
  clear HP13 HB14
  clear HLk_13
  go_wp2_with fail
  have HP15 := hid_of (HP14.out.alloc (.cells #[pv bua] 43))
  have HLk_15 : Hid (RelsAt (W14.alloc (.cells #[pv bua] 43)) W14.heap.size [(bua, cua, uaL g)]) := rels_at [(bua, cua, uaL g)] ((Rels.cons (Rels.nil _) (HP14.out.at_ (b := bua) (c := cua) (L := uaL g) (.head _))))
  clear HP14
  generalize W14.alloc (.cells #[pv bua] 43) = W15 at *
  generalize W14.heap.size = s15 at *
  refine (HP15.out.calls_rel (acqL g) (rcChain_named (bma) (cma) s15 (maI g) [(bua, cua, uaL g)] [uaL g] (map3_cons (map3_nil)) _ (HP15.out.at_ (.tail _ (.head _))) HLk_15.out (by simp) (HT.out.step' HP15.out.low)) (acqL_eq ..)).mono ?_
  rintro e W16 ⟨bacq, cacq, rfl, HP16, HB16⟩
  clear HP15 HB16
  clear HLk_15
  go_upto_region 4 with fail
  go_cut [42] (fun vx wx => ∃ brs crs, Hid (Hp w0 w m w.heap.size ⟨.slice p1 g.evs.length k1, Vr, Vc, Vm, Va, Vd, Vt⟩ g bs br bw bf (updR (r) 0 (pv brs)) [(brs, crs, rsL g Ls), (bacq, cacq, acqL g), (bua, cua, uaL g), (bma, cma, maI g), (brel, crel, relL g), (bur, cur, urL g), (bmr, cmr, mrI g), (bfe, cfe, feI g), (brd, crd, rdI g), (bwr, cwr, wrI g), (bs 0, cs 0, Ls 0), (bs 1, cs 1, Ls 1), (bs 2, cs 2, Ls 2), (bs 3, cs 3, Ls 3), (bs 4, cs 4, Ls 4), (bs 5, cs 5, Ls 5)] wx))
  case first => as_aux_lemma =>
    have HP17 := hid_of HP16.out.drew
    clear HP16
    refine wp_region_held_drew (S := fun W => W.cell? ⟨w.heap.size, 0, none⟩ = some (pv (bs 0)) ∧ W.cell? ⟨w.heap.size, 5, none⟩ = some (pv (bs 5)) ∧ W.cell? ⟨w.heap.size, 1, none⟩ = some (pv (bs 1)) ∧ W.cell? ⟨w.heap.size, 4, none⟩ = some (pv (bs 4))) (by kernel_rfl) ⟨(HP17.out.fx.cell rfl), (HP17.out.fx.cell rfl), (HP17.out.fx.cell rfl), (HP17.out.fx.cell rfl)⟩ (fun hHeld => ?_)
    generalize W16.drew = W17 at *
    refine tk 0 rfl ?_; simp only [zz]
    refine tk 1 rfl ?_; simp only [zz]
    refine tk 2 rfl ?_; simp only [zz]
    refine tk 3 rfl ?_; simp only [zz]
    refine tk 4 rfl ?_; simp only [zz]
    refine tk 5 rfl ?_; simp only [zz]
    refine tk 8 rfl ?_; simp only [zz]
    refine tk 9 rfl ?_; simp only [zz]
    refine tk 10 rfl ?_; simp only [zz]
    refine tk 11 rfl ?_; simp only [zz]
    refine tk 12 rfl ?_; simp only [zz]
    refine wpAnyH_ready (rs := [6, 13]) (by kernel_rfl) (by simp) ?_
    refine rdy rfl (fun K hK => ?_) (rdy rfl (fun K hK => ?_) AllReadyH.nil)
    · as_aux_lemma =>
        simp only [z1, z2, z3]
        go_simp
        refine (HP17.out.calls_made (plL Ls) (Inter_calls (bs 0) (cs 0) (bs 5) (cs 5) (Ls 0) (Ls 5) _ (HP17.out.at_ (.tail _ (.tail _ (.tail _ (.tail _ (.tail _ (.tail _ (.tail _ (.tail _ (.tail _ (.head _))))))))))) (HP17.out.at_ (.tail _ (.tail _ (.tail _ (.tail _ (.tail _ (.tail _ (.tail _ (.tail _ (.tail _ (.tail _ (.tail _ (.tail _ (.tail _ (.tail _ (.head _))))))))))))))))) (rfl)).mono ?_
        rintro e W18 ⟨bpl, cpl, rfl, HP18, HB18⟩
        clear HP17 HB18
        clear hHeld
        refine hK.out _ _ ⟨(HP18.out.fx.cell rfl), (HP18.out.fx.cell rfl), (HP18.out.fx.cell rfl), (HP18.out.fx.cell rfl)⟩ (fun hHeld => ?_)
        clear hK K
        try simp only [zz]
        refine wpAnyH_ready (rs := [7, 13]) (by kernel_rfl) (by simp) ?_
        refine rdy rfl (fun K hK => ?_) (rdy rfl (fun K hK => ?_) AllReadyH.nil)
        · as_aux_lemma =>
            simp only [z1, z2, z3]
            go_simp
            refine (HP18.out.calls_made (optL (plL Ls)) (Opt_calls (bpl) (cpl) (plL Ls) _ (HP18.out.at_ (.head _))) (rfl)).mono ?_
            rintro e W19 ⟨bopl, copl, rfl, HP19, HB19⟩
            clear HP18 HB19
            clear hHeld
            refine hK.out _ _ ⟨(HP19.out.fx.cell rfl), (HP19.out.fx.cell rfl), (HP19.out.fx.cell rfl), (HP19.out.fx.cell rfl)⟩ (fun hHeld => ?_)
            clear hK K
            try simp only [zz]
            refine wpAnyH_ready (rs := [13]) (by kernel_rfl) (by simp) ?_
            refine rdy rfl (fun K hK => ?_) AllReadyH.nil
            simp only [z1, z2, z3]
            refine op_build #[(0, pv (bs 4))] (by kernel_rfl) (bs1_run (bs 4) _) ?_
            have HP20 := hid_of (HP19.out.alloc (.cells #[pv (bs 4)] 43))
            have HLp_20 : Hid (RelsAt (W19.alloc (.cells #[pv (bs 4)] 43)) W19.heap.size [(bs 4, cs 4, Ls 4)]) := rels_at [(bs 4, cs 4, Ls 4)] ((Rels.cons (Rels.nil _) (HP19.out.at_ (b := bs 4) (c := cs 4) (L := Ls 4) (.tail _ (.tail _ (.tail _ (.tail _ (.tail _ (.tail _ (.tail _ (.tail _ (.tail _ (.tail _ (.tail _ (.tail _ (.tail _ (.tail _ (.tail _ (.head _)))))))))))))))))))
            clear HP19
            generalize W19.alloc (.cells #[pv (bs 4)] 43) = W20 at *
            generalize W19.heap.size = s20 at *
            clear hHeld
            refine hK.out _ _ ⟨(HP20.out.fx.cell rfl), (HP20.out.fx.cell rfl), (HP20.out.fx.cell rfl), (HP20.out.fx.cell rfl)⟩ (fun hHeld => ?_)
            clear hK K
            try simp only [zz]
            refine wpAnyH_ready (rs := [14]) (by kernel_rfl) (by simp) ?_
            refine rdy rfl (fun K hK => ?_) AllReadyH.nil
            simp only [z1, z2, z3]
            go_simp
            refine (HP20.out.calls_rel (rrL Ls) (rcChain_named (bs 1) (cs 1) s20 (Ls 1) [(bs 4, cs 4, Ls 4)] [Ls 4] (map3_cons (map3_nil)) _ (HP20.out.at_ (.tail _ (.tail _ (.tail _ (.tail _ (.tail _ (.tail _ (.tail _ (.tail _ (.tail _ (.tail _ (.tail _ (.tail _ (.head _)))))))))))))) HLp_20.out (by simp) (HT.out.step' HP20.out.low)) (rrL_eq ..)).mono ?_
            rintro e W21 ⟨brr, crr, rfl, HP21, HB21⟩
            clear HP20 HB21
            clear HLp_20
            clear hHeld
            refine hK.out _ _ ⟨(HP21.out.fx.cell rfl), (HP21.out.fx.cell rfl), (HP21.out.fx.cell rfl), (HP21.out.fx.cell rfl)⟩ (fun hHeld => ?_)
            clear hK K
            try simp only [zz]
            refine wpAnyH_ready (rs := [15]) (by kernel_rfl) (by simp) ?_
            refine rdy rfl (fun K hK => ?_) AllReadyH.nil
            simp only [z1, z2, z3]
            go_simp
            refine (HP21.out.calls_made (srrL Ls) (Star_calls (brr) (crr) (rrL Ls) _ (HP21.out.at_ (.head _))) (rfl)).mono ?_
            rintro e W22 ⟨bsrr, csrr, rfl, HP22, HB22⟩
            clear HP21 HB22
            clear hHeld
            refine hK.out _ _ ⟨(HP22.out.fx.cell rfl), (HP22.out.fx.cell rfl), (HP22.out.fx.cell rfl), (HP22.out.fx.cell rfl)⟩ (fun hHeld => ?_)
            clear hK K
            try simp only [zz]
            refine wpAnyH_ready (rs := [16]) (by kernel_rfl) (by simp) ?_
            refine rdy rfl (fun K hK => ?_) AllReadyH.nil
            simp only [z1, z2, z3]
            refine op_build #[(0, pv bopl), (1, pv bwr), (2, pv bsrr)] (by kernel_rfl) (bs3_run bopl bwr bsrr _) ?_
            have HP23 := hid_of (HP22.out.alloc (.cells #[pv bopl, pv bwr, pv bsrr] 43))
            have HLq_23 : Hid (RelsAt (W22.alloc (.cells #[pv bopl, pv bwr, pv bsrr] 43)) W22.heap.size [(bopl, copl, optL (plL Ls)), (bwr, cwr, wrI g), (bsrr, csrr, srrL Ls)]) := rels_at [(bopl, copl, optL (plL Ls)), (bwr, cwr, wrI g), (bsrr, csrr, srrL Ls)] ((Rels.cons (Rels.cons (Rels.cons (Rels.nil _) (HP22.out.at_ (b := bsrr) (c := csrr) (L := srrL Ls) (.head _))) (HP22.out.at_ (b := bwr) (c := cwr) (L := wrI g) (.tail _ (.tail _ (.tail _ (.tail _ (.tail _ (.tail _ (.tail _ (.tail _ (.tail _ (.tail _ (.tail _ (.tail _ (.head _))))))))))))))) (HP22.out.at_ (b := bopl) (c := copl) (L := optL (plL Ls)) (.tail _ (.tail _ (.head _))))))
            clear HP22
            generalize W22.alloc (.cells #[pv bopl, pv bwr, pv bsrr] 43) = W23 at *
            generalize W22.heap.size = s23 at *
            clear hHeld
            refine hK.out _ _ ⟨(HP23.out.fx.cell rfl), (HP23.out.fx.cell rfl), (HP23.out.fx.cell rfl), (HP23.out.fx.cell rfl)⟩ (fun hHeld => ?_)
            clear hK K
            try simp only [zz]
            refine wpAnyH_ready (rs := [17]) (by kernel_rfl) (by simp) ?_
            refine rdy rfl (fun K hK => ?_) AllReadyH.nil
            simp only [z1, z2, z3]
            go_simp
            refine (HP23.out.calls_rel (rsL g Ls) (rcChain_named (bwr) (cwr) s23 (wrI g) [(bopl, copl, optL (plL Ls)), (bwr, cwr, wrI g), (bsrr, csrr, srrL Ls)] [optL (plL Ls), wrI g, srrL Ls] (map3_cons (map3_cons (map3_cons (map3_nil)))) _ (HP23.out.at_ (.tail _ (.tail _ (.tail _ (.tail _ (.tail _ (.tail _ (.tail _ (.tail _ (.tail _ (.tail _ (.tail _ (.tail _ (.head _)))))))))))))) HLq_23.out (by simp) (HT.out.step' HP23.out.low)) (rsL_eq ..)).mono ?_
            rintro e W24 ⟨brs, crs, rfl, HP24, HB24⟩
            clear HP23 HB24
            clear HLq_23
            clear hHeld
            refine hK.out _ _ ⟨(HP24.out.fx.cell rfl), (HP24.out.fx.cell rfl), (HP24.out.fx.cell rfl), (HP24.out.fx.cell rfl)⟩ (fun hHeld => ?_)
            clear hK K
            try simp only [zz]
            refine tk 18 rfl ?_; simp only [zz]
            refine tk 19 rfl ?_; simp only [zz]
            refine tk 20 rfl ?_; simp only [zz]
            refine wpAnyH_ready (rs := [21]) (by kernel_rfl) (by simp) ?_
            refine rdy rfl (fun K hK => ?_) AllReadyH.nil
            have HP25 := hid_of (HP24.out.put hm0 0 (by omega) (pv brs))
            have cs0 := HP24.out.mo.cell (j := 21) (v := (r) 0) rfl
            have fz0 := HP24.out.mo.frozen 21
            simp only [z1, z2, z3]
            go_simp
            clear cs0 fz0 HP24
            clear hHeld
            refine hK.out _ _ ⟨(HP25.out.fx.cell rfl), (HP25.out.fx.cell rfl), (HP25.out.fx.cell rfl), (HP25.out.fx.cell rfl)⟩ (fun hHeld => ?_)
            clear hK K
            try simp only [zz]
            refine wpAnyH_done (by kernel_rfl) ?_ _
            clear hHeld
            go_wp2_with fail
            go_meet
            case rel => exact ⟨brs, crs, ⟨HP25.out.low, HP25.out.tch, HP25.out.mo, HP25.out.fx, HP25.out.rd, HP25.out.wt, HP25.out.fe, (Rels.cons (Rels.cons (Rels.cons (Rels.cons (Rels.cons (Rels.cons (Rels.cons (Rels.cons (Rels.cons (Rels.cons (Rels.cons (Rels.cons (Rels.cons (Rels.cons (Rels.cons (Rels.cons (Rels.nil _) (HP25.out.at_ (b := bs 5) (c := cs 5) (L := Ls 5) (.tail _ (.tail _ (.tail _ (.tail _ (.tail _ (.tail _ (.tail _ (.tail _ (.tail _ (.tail _ (.tail _ (.tail _ (.tail _ (.tail _ (.tail _ (.tail _ (.tail _ (.tail _ (.tail _ (.head _)))))))))))))))))))))) (HP25.out.at_ (b := bs 4) (c := cs 4) (L := Ls 4) (.tail _ (.tail _ (.tail _ (.tail _ (.tail _ (.tail _ (.tail _ (.tail _ (.tail _ (.tail _ (.tail _ (.tail _ (.tail _ (.tail _ (.tail _ (.tail _ (.tail _ (.tail _ (.head _))))))))))))))))))))) (HP25.out.at_ (b := bs 3) (c := cs 3) (L := Ls 3) (.tail _ (.tail _ (.tail _ (.tail _ (.tail _ (.tail _ (.tail _ (.tail _ (.tail _ (.tail _ (.tail _ (.tail _ (.tail _ (.tail _ (.tail _ (.tail _ (.tail _ (.head _)))))))))))))))))))) (HP25.out.at_ (b := bs 2) (c := cs 2) (L := Ls 2) (.tail _ (.tail _ (.tail _ (.tail _ (.tail _ (.tail _ (.tail _ (.tail _ (.tail _ (.tail _ (.tail _ (.tail _ (.tail _ (.tail _ (.tail _ (.tail _ (.head _))))))))))))))))))) (HP25.out.at_ (b := bs 1) (c := cs 1) (L := Ls 1) (.tail _ (.tail _ (.tail _ (.tail _ (.tail _ (.tail _ (.tail _ (.tail _ (.tail _ (.tail _ (.tail _ (.tail _ (.tail _ (.tail _ (.tail _ (.head _)))))))))))))))))) (HP25.out.at_ (b := bs 0) (c := cs 0) (L := Ls 0) (.tail _ (.tail _ (.tail _ (.tail _ (.tail _ (.tail _ (.tail _ (.tail _ (.tail _ (.tail _ (.tail _ (.tail _ (.tail _ (.tail _ (.head _))))))))))))))))) (HP25.out.at_ (b := bwr) (c := cwr) (L := wrI g) (.tail _ (.tail _ (.tail _ (.tail _ (.tail _ (.tail _ (.tail _ (.tail _ (.tail _ (.tail _ (.tail _ (.tail _ (.tail _ (.head _)))))))))))))))) (HP25.out.at_ (b := brd) (c := crd) (L := rdI g) (.tail _ (.tail _ (.tail _ (.tail _ (.tail _ (.tail _ (.tail _ (.tail _ (.tail _ (.tail _ (.tail _ (.tail _ (.head _))))))))))))))) (HP25.out.at_ (b := bfe) (c := cfe) (L := feI g) (.tail _ (.tail _ (.tail _ (.tail _ (.tail _ (.tail _ (.tail _ (.tail _ (.tail _ (.tail _ (.tail _ (.head _)))))))))))))) (HP25.out.at_ (b := bmr) (c := cmr) (L := mrI g) (.tail _ (.tail _ (.tail _ (.tail _ (.tail _ (.tail _ (.tail _ (.tail _ (.tail _ (.tail _ (.head _))))))))))))) (HP25.out.at_ (b := bur) (c := cur) (L := urL g) (.tail _ (.tail _ (.tail _ (.tail _ (.tail _ (.tail _ (.tail _ (.tail _ (.tail _ (.head _)))))))))))) (HP25.out.at_ (b := brel) (c := crel) (L := relL g) (.tail _ (.tail _ (.tail _ (.tail _ (.tail _ (.tail _ (.tail _ (.tail _ (.head _))))))))))) (HP25.out.at_ (b := bma) (c := cma) (L := maI g) (.tail _ (.tail _ (.tail _ (.tail _ (.tail _ (.tail _ (.tail _ (.head _)))))))))) (HP25.out.at_ (b := bua) (c := cua) (L := uaL g) (.tail _ (.tail _ (.tail _ (.tail _ (.tail _ (.tail _ (.head _))))))))) (HP25.out.at_ (b := bacq) (c := cacq) (L := acqL g) (.tail _ (.tail _ (.tail _ (.tail _ (.tail _ (.head _)))))))) (HP25.out.at_ (b := brs) (c := crs) (L := rsL g Ls) (.head _)))⟩⟩
        · as_aux_lemma =>
            simp only [z1, z2, z3]
            refine op_build #[(0, pv (bs 4))] (by kernel_rfl) (bs1_run (bs 4) _) ?_
            have HP19 := hid_of (HP18.out.alloc (.cells #[pv (bs 4)] 43))
            have HLp_19 : Hid (RelsAt (W18.alloc (.cells #[pv (bs 4)] 43)) W18.heap.size [(bs 4, cs 4, Ls 4)]) := rels_at [(bs 4, cs 4, Ls 4)] ((Rels.cons (Rels.nil _) (HP18.out.at_ (b := bs 4) (c := cs 4) (L := Ls 4) (.tail _ (.tail _ (.tail _ (.tail _ (.tail _ (.tail _ (.tail _ (.tail _ (.tail _ (.tail _ (.tail _ (.tail _ (.tail _ (.tail _ (.head _))))))))))))))))))
            clear HP18
            generalize W18.alloc (.cells #[pv (bs 4)] 43) = W19 at *
            generalize W18.heap.size = s19 at *
            clear hHeld
            refine hK.out _ _ ⟨(HP19.out.fx.cell rfl), (HP19.out.fx.cell rfl), (HP19.out.fx.cell rfl), (HP19.out.fx.cell rfl)⟩ (fun hHeld => ?_)
            clear hK K
            try simp only [zz]
            refine wpAnyH_ready (rs := [7]) (by kernel_rfl) (by simp) ?_
            refine rdy rfl (fun K hK => ?_) AllReadyH.nil
            simp only [z1, z2, z3]
            go_simp
            refine (HP19.out.calls_made (optL (plL Ls)) (Opt_calls (bpl) (cpl) (plL Ls) _ (HP19.out.at_ (.head _))) (rfl)).mono ?_
            rintro e W20 ⟨bopl, copl, rfl, HP20, HB20⟩
            have HLp_20 := hid_of (HLp_19.out.below HB20.out)
            clear HLp_19
            clear HP19 HB20
            clear hHeld
            refine hK.out _ _ ⟨(HP20.out.fx.cell rfl), (HP20.out.fx.cell rfl), (HP20.out.fx.cell rfl), (HP20.out.fx.cell rfl)⟩ (fun hHeld => ?_)
            clear hK K
            try simp only [zz]
            refine wpAnyH_ready (rs := [14]) (by kernel_rfl) (by simp) ?_
            refine rdy rfl (fun K hK => ?_) AllReadyH.nil
            simp only [z1, z2, z3]
            go_simp
            refine (HP20.out.calls_rel (rrL Ls) (rcChain_named (bs 1) (cs 1) s19 (Ls 1) [(bs 4, cs 4, Ls 4)] [Ls 4] (map3_cons (map3_nil)) _ (HP20.out.at_ (.tail _ (.tail _ (.tail _ (.tail _ (.tail _ (.tail _ (.tail _ (.tail _ (.tail _ (.tail _ (.tail _ (.tail _ (.head _)))))))))))))) HLp_20.out (by simp) (HT.out.step' HP20.out.low)) (rrL_eq ..)).mono ?_
            rintro e W21 ⟨brr, crr, rfl, HP21, HB21⟩
            clear HP20 HB21
            clear HLp_20
            clear hHeld
            refine hK.out _ _ ⟨(HP21.out.fx.cell rfl), (HP21.out.fx.cell rfl), (HP21.out.fx.cell rfl), (HP21.out.fx.cell rfl)⟩ (fun hHeld => ?_)
            clear hK K
            try simp only [zz]
            refine wpAnyH_ready (rs := [15]) (by kernel_rfl) (by simp) ?_
            refine rdy rfl (fun K hK => ?_) AllReadyH.nil
            simp only [z1, z2, z3]
            go_simp
            refine (HP21.out.calls_made (srrL Ls) (Star_calls (brr) (crr) (rrL Ls) _ (HP21.out.at_ (.head _))) (rfl)).mono ?_
            rintro e W22 ⟨bsrr, csrr, rfl, HP22, HB22⟩
            clear HP21 HB22
            clear hHeld
            refine hK.out _ _ ⟨(HP22.out.fx.cell rfl), (HP22.out.fx.cell rfl), (HP22.out.fx.cell rfl), (HP22.out.fx.cell rfl)⟩ (fun hHeld => ?_)
            clear hK K
            try simp only [zz]
            refine wpAnyH_ready (rs := [16]) (by kernel_rfl) (by simp) ?_
            refine rdy rfl (fun K hK => ?_) AllReadyH.nil
            simp only [z1, z2, z3]
            refine op_build #[(0, pv bopl), (1, pv bwr), (2, pv bsrr)] (by kernel_rfl) (bs3_run bopl bwr bsrr _) ?_
            have HP23 := hid_of (HP22.out.alloc (.cells #[pv bopl, pv bwr, pv bsrr] 43))
            have HLq_23 : Hid (RelsAt (W22.alloc (.cells #[pv bopl, pv bwr, pv bsrr] 43)) W22.heap.size [(bopl, copl, optL (plL Ls)), (bwr, cwr, wrI g), (bsrr, csrr, srrL Ls)]) := rels_at [(bopl, copl, optL (plL Ls)), (bwr, cwr, wrI g), (bsrr, csrr, srrL Ls)] ((Rels.cons (Rels.cons (Rels.cons (Rels.nil _) (HP22.out.at_ (b := bsrr) (c := csrr) (L := srrL Ls) (.head _))) (HP22.out.at_ (b := bwr) (c := cwr) (L := wrI g) (.tail _ (.tail _ (.tail _ (.tail _ (.tail _ (.tail _ (.tail _ (.tail _ (.tail _ (.tail _ (.tail _ (.tail _ (.head _))))))))))))))) (HP22.out.at_ (b := bopl) (c := copl) (L := optL (plL Ls)) (.tail _ (.tail _ (.head _))))))
            clear HP22
            generalize W22.alloc (.cells #[pv bopl, pv bwr, pv bsrr] 43) = W23 at *
            generalize W22.heap.size = s23 at *
            clear hHeld
            refine hK.out _ _ ⟨(HP23.out.fx.cell rfl), (HP23.out.fx.cell rfl), (HP23.out.fx.cell rfl), (HP23.out.fx.cell rfl)⟩ (fun hHeld => ?_)
            clear hK K
            try simp only [zz]
            refine wpAnyH_ready (rs := [17]) (by kernel_rfl) (by simp) ?_
            refine rdy rfl (fun K hK => ?_) AllReadyH.nil
            simp only [z1, z2, z3]
            go_simp
            refine (HP23.out.calls_rel (rsL g Ls) (rcChain_named (bwr) (cwr) s23 (wrI g) [(bopl, copl, optL (plL Ls)), (bwr, cwr, wrI g), (bsrr, csrr, srrL Ls)] [optL (plL Ls), wrI g, srrL Ls] (map3_cons (map3_cons (map3_cons (map3_nil)))) _ (HP23.out.at_ (.tail _ (.tail _ (.tail _ (.tail _ (.tail _ (.tail _ (.tail _ (.tail _ (.tail _ (.tail _ (.tail _ (.tail _ (.head _)))))))))))))) HLq_23.out (by simp) (HT.out.step' HP23.out.low)) (rsL_eq ..)).mono ?_
            rintro e W24 ⟨brs, crs, rfl, HP24, HB24⟩
            clear HP23 HB24
            clear HLq_23
            clear hHeld
            refine hK.out _ _ ⟨(HP24.out.fx.cell rfl), (HP24.out.fx.cell rfl), (HP24.out.fx.cell rfl), (HP24.out.fx.cell rfl)⟩ (fun hHeld => ?_)
            clear hK K
            try simp only [zz]
            refine tk 18 rfl ?_; simp only [zz]
            refine tk 19 rfl ?_; simp only [zz]
            refine tk 20 rfl ?_; simp only [zz]
            refine wpAnyH_ready (rs := [21]) (by kernel_rfl) (by simp) ?_
            refine rdy rfl (fun K hK => ?_) AllReadyH.nil
            have HP25 := hid_of (HP24.out.put hm0 0 (by omega) (pv brs))
            have cs0 := HP24.out.mo.cell (j := 21) (v := (r) 0) rfl
            have fz0 := HP24.out.mo.frozen 21
            simp only [z1, z2, z3]
            go_simp
            clear cs0 fz0 HP24
            clear hHeld
            refine hK.out _ _ ⟨(HP25.out.fx.cell rfl), (HP25.out.fx.cell rfl), (HP25.out.fx.cell rfl), (HP25.out.fx.cell rfl)⟩ (fun hHeld => ?_)
            clear hK K
            try simp only [zz]
            refine wpAnyH_done (by kernel_rfl) ?_ _
            clear hHeld
            go_wp2_with fail
            go_meet
            case rel => exact ⟨brs, crs, ⟨HP25.out.low, HP25.out.tch, HP25.out.mo, HP25.out.fx, HP25.out.rd, HP25.out.wt, HP25.out.fe, (Rels.cons (Rels.cons (Rels.cons (Rels.cons (Rels.cons (Rels.cons (Rels.cons (Rels.cons (Rels.cons (Rels.cons (Rels.cons (Rels.cons (Rels.cons (Rels.cons (Rels.cons (Rels.cons (Rels.nil _) (HP25.out.at_ (b := bs 5) (c := cs 5) (L := Ls 5) (.tail _ (.tail _ (.tail _ (.tail _ (.tail _ (.tail _ (.tail _ (.tail _ (.tail _ (.tail _ (.tail _ (.tail _ (.tail _ (.tail _ (.tail _ (.tail _ (.tail _ (.tail _ (.tail _ (.head _)))))))))))))))))))))) (HP25.out.at_ (b := bs 4) (c := cs 4) (L := Ls 4) (.tail _ (.tail _ (.tail _ (.tail _ (.tail _ (.tail _ (.tail _ (.tail _ (.tail _ (.tail _ (.tail _ (.tail _ (.tail _ (.tail _ (.tail _ (.tail _ (.tail _ (.tail _ (.head _))))))))))))))))))))) (HP25.out.at_ (b := bs 3) (c := cs 3) (L := Ls 3) (.tail _ (.tail _ (.tail _ (.tail _ (.tail _ (.tail _ (.tail _ (.tail _ (.tail _ (.tail _ (.tail _ (.tail _ (.tail _ (.tail _ (.tail _ (.tail _ (.tail _ (.head _)))))))))))))))))))) (HP25.out.at_ (b := bs 2) (c := cs 2) (L := Ls 2) (.tail _ (.tail _ (.tail _ (.tail _ (.tail _ (.tail _ (.tail _ (.tail _ (.tail _ (.tail _ (.tail _ (.tail _ (.tail _ (.tail _ (.tail _ (.tail _ (.head _))))))))))))))))))) (HP25.out.at_ (b := bs 1) (c := cs 1) (L := Ls 1) (.tail _ (.tail _ (.tail _ (.tail _ (.tail _ (.tail _ (.tail _ (.tail _ (.tail _ (.tail _ (.tail _ (.tail _ (.tail _ (.tail _ (.tail _ (.head _)))))))))))))))))) (HP25.out.at_ (b := bs 0) (c := cs 0) (L := Ls 0) (.tail _ (.tail _ (.tail _ (.tail _ (.tail _ (.tail _ (.tail _ (.tail _ (.tail _ (.tail _ (.tail _ (.tail _ (.tail _ (.tail _ (.head _))))))))))))))))) (HP25.out.at_ (b := bwr) (c := cwr) (L := wrI g) (.tail _ (.tail _ (.tail _ (.tail _ (.tail _ (.tail _ (.tail _ (.tail _ (.tail _ (.tail _ (.tail _ (.tail _ (.tail _ (.head _)))))))))))))))) (HP25.out.at_ (b := brd) (c := crd) (L := rdI g) (.tail _ (.tail _ (.tail _ (.tail _ (.tail _ (.tail _ (.tail _ (.tail _ (.tail _ (.tail _ (.tail _ (.tail _ (.head _))))))))))))))) (HP25.out.at_ (b := bfe) (c := cfe) (L := feI g) (.tail _ (.tail _ (.tail _ (.tail _ (.tail _ (.tail _ (.tail _ (.tail _ (.tail _ (.tail _ (.tail _ (.head _)))))))))))))) (HP25.out.at_ (b := bmr) (c := cmr) (L := mrI g) (.tail _ (.tail _ (.tail _ (.tail _ (.tail _ (.tail _ (.tail _ (.tail _ (.tail _ (.tail _ (.head _))))))))))))) (HP25.out.at_ (b := bur) (c := cur) (L := urL g) (.tail _ (.tail _ (.tail _ (.tail _ (.tail _ (.tail _ (.tail _ (.tail _ (.tail _ (.head _)))))))))))) (HP25.out.at_ (b := brel) (c := crel) (L := relL g) (.tail _ (.tail _ (.tail _ (.tail _ (.tail _ (.tail _ (.tail _ (.tail _ (.head _))))))))))) (HP25.out.at_ (b := bma) (c := cma) (L := maI g) (.tail _ (.tail _ (.tail _ (.tail _ (.tail _ (.tail _ (.tail _ (.head _)))))))))) (HP25.out.at_ (b := bua) (c := cua) (L := uaL g) (.tail _ (.tail _ (.tail _ (.tail _ (.tail _ (.tail _ (.head _))))))))) (HP25.out.at_ (b := bacq) (c := cacq) (L := acqL g) (.tail _ (.tail _ (.tail _ (.tail _ (.tail _ (.head _)))))))) (HP25.out.at_ (b := brs) (c := crs) (L := rsL g Ls) (.head _)))⟩⟩
    · as_aux_lemma =>
        simp only [z1, z2, z3]
        refine op_build #[(0, pv (bs 4))] (by kernel_rfl) (bs1_run (bs 4) _) ?_
        have HP18 := hid_of (HP17.out.alloc (.cells #[pv (bs 4)] 43))
        have HLp_18 : Hid (RelsAt (W17.alloc (.cells #[pv (bs 4)] 43)) W17.heap.size [(bs 4, cs 4, Ls 4)]) := rels_at [(bs 4, cs 4, Ls 4)] ((Rels.cons (Rels.nil _) (HP17.out.at_ (b := bs 4) (c := cs 4) (L := Ls 4) (.tail _ (.tail _ (.tail _ (.tail _ (.tail _ (.tail _ (.tail _ (.tail _ (.tail _ (.tail _ (.tail _ (.tail _ (.tail _ (.head _)))))))))))))))))
        clear HP17
        generalize W17.alloc (.cells #[pv (bs 4)] 43) = W18 at *
        generalize W17.heap.size = s18 at *
        clear hHeld
        refine hK.out _ _ ⟨(HP18.out.fx.cell rfl), (HP18.out.fx.cell rfl), (HP18.out.fx.cell rfl), (HP18.out.fx.cell rfl)⟩ (fun hHeld => ?_)
        clear hK K
        try simp only [zz]
        refine wpAnyH_ready (rs := [6]) (by kernel_rfl) (by simp) ?_
        refine rdy rfl (fun K hK => ?_) AllReadyH.nil
        simp only [z1, z2, z3]
        go_simp
        refine (HP18.out.calls_made (plL Ls) (Inter_calls (bs 0) (cs 0) (bs 5) (cs 5) (Ls 0) (Ls 5) _ (HP18.out.at_ (.tail _ (.tail _ (.tail _ (.tail _ (.tail _ (.tail _ (.tail _ (.tail _ (.tail _ (.head _))))))))))) (HP18.out.at_ (.tail _ (.tail _ (.tail _ (.tail _ (.tail _ (.tail _ (.tail _ (.tail _ (.tail _ (.tail _ (.tail _ (.tail _ (.tail _ (.tail _ (.head _))))))))))))))))) (rfl)).mono ?_
        rintro e W19 ⟨bpl, cpl, rfl, HP19, HB19⟩
        have HLp_19 := hid_of (HLp_18.out.below HB19.out)
        clear HLp_18
        clear HP18 HB19
        clear hHeld
        refine hK.out _ _ ⟨(HP19.out.fx.cell rfl), (HP19.out.fx.cell rfl), (HP19.out.fx.cell rfl), (HP19.out.fx.cell rfl)⟩ (fun hHeld => ?_)
        clear hK K
        try simp only [zz]
        refine wpAnyH_ready (rs := [7]) (by kernel_rfl) (by simp) ?_
        refine rdy rfl (fun K hK => ?_) AllReadyH.nil
        simp only [z1, z2, z3]
        go_simp
        refine (HP19.out.calls_made (optL (plL Ls)) (Opt_calls (bpl) (cpl) (plL Ls) _ (HP19.out.at_ (.head _))) (rfl)).mono ?_
        rintro e W20 ⟨bopl, copl, rfl, HP20, HB20⟩
        have HLp_20 := hid_of (HLp_19.out.below HB20.out)
        clear HLp_19
        clear HP19 HB20
        clear hHeld
        refine hK.out _ _ ⟨(HP20.out.fx.cell rfl), (HP20.out.fx.cell rfl), (HP20.out.fx.cell rfl), (HP20.out.fx.cell rfl)⟩ (fun hHeld => ?_)
        clear hK K
        try simp only [zz]
        refine wpAnyH_ready (rs := [14]) (by kernel_rfl) (by simp) ?_
        refine rdy rfl (fun K hK => ?_) AllReadyH.nil
        simp only [z1, z2, z3]
        go_simp
        refine (HP20.out.calls_rel (rrL Ls) (rcChain_named (bs 1) (cs 1) s18 (Ls 1) [(bs 4, cs 4, Ls 4)] [Ls 4] (map3_cons (map3_nil)) _ (HP20.out.at_ (.tail _ (.tail _ (.tail _ (.tail _ (.tail _ (.tail _ (.tail _ (.tail _ (.tail _ (.tail _ (.tail _ (.tail _ (.head _)))))))))))))) HLp_20.out (by simp) (HT.out.step' HP20.out.low)) (rrL_eq ..)).mono ?_
        rintro e W21 ⟨brr, crr, rfl, HP21, HB21⟩
        clear HP20 HB21
        clear HLp_20
        clear hHeld
        refine hK.out _ _ ⟨(HP21.out.fx.cell rfl), (HP21.out.fx.cell rfl), (HP21.out.fx.cell rfl), (HP21.out.fx.cell rfl)⟩ (fun hHeld => ?_)
        clear hK K
        try simp only [zz]
        refine wpAnyH_ready (rs := [15]) (by kernel_rfl) (by simp) ?_
        refine rdy rfl (fun K hK => ?_) AllReadyH.nil
        simp only [z1, z2, z3]
        go_simp
        refine (HP21.out.calls_made (srrL Ls) (Star_calls (brr) (crr) (rrL Ls) _ (HP21.out.at_ (.head _))) (rfl)).mono ?_
        rintro e W22 ⟨bsrr, csrr, rfl, HP22, HB22⟩
        clear HP21 HB22
        clear hHeld
        refine hK.out _ _ ⟨(HP22.out.fx.cell rfl), (HP22.out.fx.cell rfl), (HP22.out.fx.cell rfl), (HP22.out.fx.cell rfl)⟩ (fun hHeld => ?_)
        clear hK K
        try simp only [zz]
        refine wpAnyH_ready (rs := [16]) (by kernel_rfl) (by simp) ?_
        refine rdy rfl (fun K hK => ?_) AllReadyH.nil
        simp only [z1, z2, z3]
        refine op_build #[(0, pv bopl), (1, pv bwr), (2, pv bsrr)] (by kernel_rfl) (bs3_run bopl bwr bsrr _) ?_
        have HP23 := hid_of (HP22.out.alloc (.cells #[pv bopl, pv bwr, pv bsrr] 43))
        have HLq_23 : Hid (RelsAt (W22.alloc (.cells #[pv bopl, pv bwr, pv bsrr] 43)) W22.heap.size [(bopl, copl, optL (plL Ls)), (bwr, cwr, wrI g), (bsrr, csrr, srrL Ls)]) := rels_at [(bopl, copl, optL (plL Ls)), (bwr, cwr, wrI g), (bsrr, csrr, srrL Ls)] ((Rels.cons (Rels.cons (Rels.cons (Rels.nil _) (HP22.out.at_ (b := bsrr) (c := csrr) (L := srrL Ls) (.head _))) (HP22.out.at_ (b := bwr) (c := cwr) (L := wrI g) (.tail _ (.tail _ (.tail _ (.tail _ (.tail _ (.tail _ (.tail _ (.tail _ (.tail _ (.tail _ (.tail _ (.tail _ (.head _))))))))))))))) (HP22.out.at_ (b := bopl) (c := copl) (L := optL (plL Ls)) (.tail _ (.tail _ (.head _))))))
        clear HP22
        generalize W22.alloc (.cells #[pv bopl, pv bwr, pv bsrr] 43) = W23 at *
        generalize W22.heap.size = s23 at *
        clear hHeld
        refine hK.out _ _ ⟨(HP23.out.fx.cell rfl), (HP23.out.fx.cell rfl), (HP23.out.fx.cell rfl), (HP23.out.fx.cell rfl)⟩ (fun hHeld => ?_)
        clear hK K
        try simp only [zz]
        refine wpAnyH_ready (rs := [17]) (by kernel_rfl) (by simp) ?_
        refine rdy rfl (fun K hK => ?_) AllReadyH.nil
        simp only [z1, z2, z3]
        go_simp
        refine (HP23.out.calls_rel (rsL g Ls) (rcChain_named (bwr) (cwr) s23 (wrI g) [(bopl, copl, optL (plL Ls)), (bwr, cwr, wrI g), (bsrr, csrr, srrL Ls)] [optL (plL Ls), wrI g, srrL Ls] (map3_cons (map3_cons (map3_cons (map3_nil)))) _ (HP23.out.at_ (.tail _ (.tail _ (.tail _ (.tail _ (.tail _ (.tail _ (.tail _ (.tail _ (.tail _ (.tail _ (.tail _ (.tail _ (.head _)))))))))))))) HLq_23.out (by simp) (HT.out.step' HP23.out.low)) (rsL_eq ..)).mono ?_
        rintro e W24 ⟨brs, crs, rfl, HP24, HB24⟩
        clear HP23 HB24
        clear HLq_23
        clear hHeld
        refine hK.out _ _ ⟨(HP24.out.fx.cell rfl), (HP24.out.fx.cell rfl), (HP24.out.fx.cell rfl), (HP24.out.fx.cell rfl)⟩ (fun hHeld => ?_)
        clear hK K
        try simp only [zz]
        refine tk 18 rfl ?_; simp only [zz]
        refine tk 19 rfl ?_; simp only [zz]
        refine tk 20 rfl ?_; simp only [zz]
        refine wpAnyH_ready (rs := [21]) (by kernel_rfl) (by simp) ?_
        refine rdy rfl (fun K hK => ?_) AllReadyH.nil
        have HP25 := hid_of (HP24.out.put hm0 0 (by omega) (pv brs))
        have cs0 := HP24.out.mo.cell (j := 21) (v := (r) 0) rfl
        have fz0 := HP24.out.mo.frozen 21
        simp only [z1, z2, z3]
        go_simp
        clear cs0 fz0 HP24
        clear hHeld
        refine hK.out _ _ ⟨(HP25.out.fx.cell rfl), (HP25.out.fx.cell rfl), (HP25.out.fx.cell rfl), (HP25.out.fx.cell rfl)⟩ (fun hHeld => ?_)
        clear hK K
        try simp only [zz]
        refine wpAnyH_done (by kernel_rfl) ?_ _
        clear hHeld
        go_wp2_with fail
        go_meet
        case rel => exact ⟨brs, crs, ⟨HP25.out.low, HP25.out.tch, HP25.out.mo, HP25.out.fx, HP25.out.rd, HP25.out.wt, HP25.out.fe, (Rels.cons (Rels.cons (Rels.cons (Rels.cons (Rels.cons (Rels.cons (Rels.cons (Rels.cons (Rels.cons (Rels.cons (Rels.cons (Rels.cons (Rels.cons (Rels.cons (Rels.cons (Rels.cons (Rels.nil _) (HP25.out.at_ (b := bs 5) (c := cs 5) (L := Ls 5) (.tail _ (.tail _ (.tail _ (.tail _ (.tail _ (.tail _ (.tail _ (.tail _ (.tail _ (.tail _ (.tail _ (.tail _ (.tail _ (.tail _ (.tail _ (.tail _ (.tail _ (.tail _ (.tail _ (.head _)))))))))))))))))))))) (HP25.out.at_ (b := bs 4) (c := cs 4) (L := Ls 4) (.tail _ (.tail _ (.tail _ (.tail _ (.tail _ (.tail _ (.tail _ (.tail _ (.tail _ (.tail _ (.tail _ (.tail _ (.tail _ (.tail _ (.tail _ (.tail _ (.tail _ (.tail _ (.head _))))))))))))))))))))) (HP25.out.at_ (b := bs 3) (c := cs 3) (L := Ls 3) (.tail _ (.tail _ (.tail _ (.tail _ (.tail _ (.tail _ (.tail _ (.tail _ (.tail _ (.tail _ (.tail _ (.tail _ (.tail _ (.tail _ (.tail _ (.tail _ (.tail _ (.head _)))))))))))))))))))) (HP25.out.at_ (b := bs 2) (c := cs 2) (L := Ls 2) (.tail _ (.tail _ (.tail _ (.tail _ (.tail _ (.tail _ (.tail _ (.tail _ (.tail _ (.tail _ (.tail _ (.tail _ (.tail _ (.tail _ (.tail _ (.tail _ (.head _))))))))))))))))))) (HP25.out.at_ (b := bs 1) (c := cs 1) (L := Ls 1) (.tail _ (.tail _ (.tail _ (.tail _ (.tail _ (.tail _ (.tail _ (.tail _ (.tail _ (.tail _ (.tail _ (.tail _ (.tail _ (.tail _ (.tail _ (.head _)))))))))))))))))) (HP25.out.at_ (b := bs 0) (c := cs 0) (L := Ls 0) (.tail _ (.tail _ (.tail _ (.tail _ (.tail _ (.tail _ (.tail _ (.tail _ (.tail _ (.tail _ (.tail _ (.tail _ (.tail _ (.tail _ (.head _))))))))))))))))) (HP25.out.at_ (b := bwr) (c := cwr) (L := wrI g) (.tail _ (.tail _ (.tail _ (.tail _ (.tail _ (.tail _ (.tail _ (.tail _ (.tail _ (.tail _ (.tail _ (.tail _ (.tail _ (.head _)))))))))))))))) (HP25.out.at_ (b := brd) (c := crd) (L := rdI g) (.tail _ (.tail _ (.tail _ (.tail _ (.tail _ (.tail _ (.tail _ (.tail _ (.tail _ (.tail _ (.tail _ (.tail _ (.head _))))))))))))))) (HP25.out.at_ (b := bfe) (c := cfe) (L := feI g) (.tail _ (.tail _ (.tail _ (.tail _ (.tail _ (.tail _ (.tail _ (.tail _ (.tail _ (.tail _ (.tail _ (.head _)))))))))))))) (HP25.out.at_ (b := bmr) (c := cmr) (L := mrI g) (.tail _ (.tail _ (.tail _ (.tail _ (.tail _ (.tail _ (.tail _ (.tail _ (.tail _ (.tail _ (.head _))))))))))))) (HP25.out.at_ (b := bur) (c := cur) (L := urL g) (.tail _ (.tail _ (.tail _ (.tail _ (.tail _ (.tail _ (.tail _ (.tail _ (.tail _ (.head _)))))))))))) (HP25.out.at_ (b := brel) (c := crel) (L := relL g) (.tail _ (.tail _ (.tail _ (.tail _ (.tail _ (.tail _ (.tail _ (.tail _ (.head _))))))))))) (HP25.out.at_ (b := bma) (c := cma) (L := maI g) (.tail _ (.tail _ (.tail _ (.tail _ (.tail _ (.tail _ (.tail _ (.head _)))))))))) (HP25.out.at_ (b := bua) (c := cua) (L := uaL g) (.tail _ (.tail _ (.tail _ (.tail _ (.tail _ (.tail _ (.head _))))))))) (HP25.out.at_ (b := bacq) (c := cacq) (L := acqL g) (.tail _ (.tail _ (.tail _ (.tail _ (.tail _ (.head _)))))))) (HP25.out.at_ (b := brs) (c := crs) (L := rsL g Ls) (.head _)))⟩⟩
  case rest =>
  obtain ⟨brs, crs, HPxrs⟩ := hcut
  generalize hwq : wc = wxrs at *
  clear hwq HP16
  go_upto_region 5 with fail
  go_cut [63] (fun vx wx => ∃ bsw csw, Hid (Hp w0 w m w.heap.size ⟨.slice p1 g.evs.length k1, Vr, Vc, Vm, Va, Vd, Vt⟩ g bs br bw bf (updR (updR (r) 0 (pv brs)) 1 (pv bsw)) [(bsw, csw, swL g Ls), (brs, crs, rsL g Ls), (bacq, cacq, acqL g), (bua, cua, uaL g), (bma, cma, maI g), (brel, crel, relL g), (bur, cur, urL g), (bmr, cmr, mrI g), (bfe, cfe, feI g), (brd, crd, rdI g), (bwr, cwr, wrI g), (bs 0, cs 0, Ls 0), (bs 1, cs 1, Ls 1), (bs 2, cs 2, Ls 2), (bs 3, cs 3, Ls 3), (bs 4, cs 4, Ls 4), (bs 5, cs 5, Ls 5)] wx))
  case first => as_aux_lemma =>
    have HP17 := hid_of HPxrs.out.drew
    clear HPxrs
    refine wp_region_held_drew (S := fun W => W.cell? ⟨w.heap.size, 0, none⟩ = some (pv (bs 0)) ∧ W.cell? ⟨w.heap.size, 1, none⟩ = some (pv (bs 1)) ∧ W.cell? ⟨m, 21, none⟩ = some (pv brs)) (by kernel_rfl) ⟨(HP17.out.fx.cell rfl), (HP17.out.fx.cell rfl), (HP17.out.mo.cell rfl)⟩ (fun hHeld => ?_)
    generalize wxrs.drew = W17 at *
    refine tk 0 rfl ?_; simp only [zz]
    refine tk 1 rfl ?_; simp only [zz]
    refine tk 2 rfl ?_; simp only [zz]
    refine tk 3 rfl ?_; simp only [zz]
    refine tk 4 rfl ?_; simp only [zz]
    refine tk 8 rfl ?_; simp only [zz]
    refine tk 9 rfl ?_; simp only [zz]
    refine tk 10 rfl ?_; simp only [zz]
    refine tk 11 rfl ?_; simp only [zz]
    refine tk 12 rfl ?_; simp only [zz]
    refine tk 13 rfl ?_; simp only [zz]
    refine tk 14 rfl ?_; simp only [zz]
    refine tk 15 rfl ?_; simp only [zz]
    refine tk 16 rfl ?_; simp only [zz]
    refine tk 17 rfl ?_; simp only [zz]
    refine tk 18 rfl ?_; simp only [zz]
    refine tk 22 rfl ?_; simp only [zz]
    refine wpAnyH_ready (rs := [5, 19]) (by kernel_rfl) (by simp) ?_
    refine rdy rfl (fun K hK => ?_) (rdy rfl (fun K hK => ?_) AllReadyH.nil)
    · as_aux_lemma =>
        simp only [z1, z2, z3]
        refine op_build #[(0, pv (bs 0))] (by kernel_rfl) (bs1_run (bs 0) _) ?_
        have HP18 := hid_of (HP17.out.alloc (.cells #[pv (bs 0)] 43))
        have HLp_18 : Hid (RelsAt (W17.alloc (.cells #[pv (bs 0)] 43)) W17.heap.size [(bs 0, cs 0, Ls 0)]) := rels_at [(bs 0, cs 0, Ls 0)] ((Rels.cons (Rels.nil _) (HP17.out.at_ (b := bs 0) (c := cs 0) (L := Ls 0) (.tail _ (.tail _ (.tail _ (.tail _ (.tail _ (.tail _ (.tail _ (.tail _ (.tail _ (.tail _ (.head _))))))))))))))
        clear HP17
        generalize W17.alloc (.cells #[pv (bs 0)] 43) = W18 at *
        generalize W17.heap.size = s18 at *
        clear hHeld
        refine hK.out _ _ ⟨(HP18.out.fx.cell rfl), (HP18.out.fx.cell rfl), (HP18.out.mo.cell rfl)⟩ (fun hHeld => ?_)
        clear hK K
        try simp only [zz]
        refine wpAnyH_ready (rs := [6, 19]) (by kernel_rfl) (by simp) ?_
        refine rdy rfl (fun K hK => ?_) (rdy rfl (fun K hK => ?_) AllReadyH.nil)
        · as_aux_lemma =>
            simp only [z1, z2, z3]
            go_simp
            refine (HP18.out.calls_rel (fpL g Ls) (rcChain_named (bfe) (cfe) s18 (feI g) [(bs 0, cs 0, Ls 0)] [Ls 0] (map3_cons (map3_nil)) _ (HP18.out.at_ (.tail _ (.tail _ (.tail _ (.tail _ (.tail _ (.tail _ (.tail _ (.head _))))))))) HLp_18.out (by simp) (HT.out.step' HP18.out.low)) (fpL_eq ..)).mono ?_
            rintro e W19 ⟨bfp, cfp, rfl, HP19, HB19⟩
            clear HP18 HB19
            clear HLp_18
            clear hHeld
            refine hK.out _ _ ⟨(HP19.out.fx.cell rfl), (HP19.out.fx.cell rfl), (HP19.out.mo.cell rfl)⟩ (fun hHeld => ?_)
            clear hK K
            try simp only [zz]
            refine wpAnyH_ready (rs := [7, 19]) (by kernel_rfl) (by simp) ?_
            refine rdy rfl (fun K hK => ?_) (rdy rfl (fun K hK => ?_) AllReadyH.nil)
            · as_aux_lemma =>
                simp only [z1, z2, z3]
                go_simp
                refine (HP19.out.calls_made (optL (fpL g Ls)) (Opt_calls (bfp) (cfp) (fpL g Ls) _ (HP19.out.at_ (.head _))) (rfl)).mono ?_
                rintro e W20 ⟨bofp, cofp, rfl, HP20, HB20⟩
                clear HP19 HB20
                clear hHeld
                refine hK.out _ _ ⟨(HP20.out.fx.cell rfl), (HP20.out.fx.cell rfl), (HP20.out.mo.cell rfl)⟩ (fun hHeld => ?_)
                clear hK K
                try simp only [zz]
                refine wpAnyH_ready (rs := [19]) (by kernel_rfl) (by simp) ?_
                refine rdy rfl (fun K hK => ?_) AllReadyH.nil
                simp only [z1, z2, z3]
                refine op_build #[(0, pv bfe)] (by kernel_rfl) (bs1_run bfe _) ?_
                have HP21 := hid_of (HP20.out.alloc (.cells #[pv bfe] 43))
                have HLq_21 : Hid (RelsAt (W20.alloc (.cells #[pv bfe] 43)) W20.heap.size [(bfe, cfe, feI g)]) := rels_at [(bfe, cfe, feI g)] ((Rels.cons (Rels.nil _) (HP20.out.at_ (b := bfe) (c := cfe) (L := feI g) (.tail _ (.tail _ (.tail _ (.tail _ (.tail _ (.tail _ (.tail _ (.tail _ (.tail _ (.head _)))))))))))))
                clear HP20
                generalize W20.alloc (.cells #[pv bfe] 43) = W21 at *
                generalize W20.heap.size = s21 at *
                clear hHeld
                refine hK.out _ _ ⟨(HP21.out.fx.cell rfl), (HP21.out.fx.cell rfl), (HP21.out.mo.cell rfl)⟩ (fun hHeld => ?_)
                clear hK K
                try simp only [zz]
                refine wpAnyH_ready (rs := [20]) (by kernel_rfl) (by simp) ?_
                refine rdy rfl (fun K hK => ?_) AllReadyH.nil
                simp only [z1, z2, z3]
                go_simp
                refine (HP21.out.calls_rel (pfL g Ls) (rcChain_named (bs 0) (cs 0) s21 (Ls 0) [(bfe, cfe, feI g)] [feI g] (map3_cons (map3_nil)) _ (HP21.out.at_ (.tail _ (.tail _ (.tail _ (.tail _ (.tail _ (.tail _ (.tail _ (.tail _ (.tail _ (.tail _ (.tail _ (.tail _ (.head _)))))))))))))) HLq_21.out (by simp) (HT.out.step' HP21.out.low)) (pfL_eq ..)).mono ?_
                rintro e W22 ⟨bpf, cpf, rfl, HP22, HB22⟩
                clear HP21 HB22
                clear HLq_21
                clear hHeld
                refine hK.out _ _ ⟨(HP22.out.fx.cell rfl), (HP22.out.fx.cell rfl), (HP22.out.mo.cell rfl)⟩ (fun hHeld => ?_)
                clear hK K
                try simp only [zz]
                refine wpAnyH_ready (rs := [21]) (by kernel_rfl) (by simp) ?_
                refine rdy rfl (fun K hK => ?_) AllReadyH.nil
                simp only [z1, z2, z3]
                go_simp
                refine (HP22.out.calls_made (optL (pfL g Ls)) (Opt_calls (bpf) (cpf) (pfL g Ls) _ (HP22.out.at_ (.head _))) (rfl)).mono ?_
                rintro e W23 ⟨bopf, copf, rfl, HP23, HB23⟩
                clear HP22 HB23
                clear hHeld
                refine hK.out _ _ ⟨(HP23.out.fx.cell rfl), (HP23.out.fx.cell rfl), (HP23.out.mo.cell rfl)⟩ (fun hHeld => ?_)
                clear hK K
                try simp only [zz]
                refine wpAnyH_ready (rs := [23]) (by kernel_rfl) (by simp) ?_
                refine rdy rfl (fun K hK => ?_) AllReadyH.nil
                simp only [z1, z2, z3]
                refine op_build #[(0, pv bofp), (1, pv brs), (2, pv (bs 1)), (3, pv brd), (4, pv bopf), (5, pv bacq)] (by kernel_rfl) (bs6_run bofp brs (bs 1) brd bopf bacq _) ?_
                have HP24 := hid_of (HP23.out.alloc (.cells #[pv bofp, pv brs, pv (bs 1), pv brd, pv bopf, pv bacq] 43))
                have HLt_24 : Hid (RelsAt (W23.alloc (.cells #[pv bofp, pv brs, pv (bs 1), pv brd, pv bopf, pv bacq] 43)) W23.heap.size [(bofp, cofp, optL (fpL g Ls)), (brs, crs, rsL g Ls), (bs 1, cs 1, Ls 1), (brd, crd, rdI g), (bopf, copf, optL (pfL g Ls)), (bacq, cacq, acqL g)]) := rels_at [(bofp, cofp, optL (fpL g Ls)), (brs, crs, rsL g Ls), (bs 1, cs 1, Ls 1), (brd, crd, rdI g), (bopf, copf, optL (pfL g Ls)), (bacq, cacq, acqL g)] ((Rels.cons (Rels.cons (Rels.cons (Rels.cons (Rels.cons (Rels.cons (Rels.nil _) (HP23.out.at_ (b := bacq) (c := cacq) (L := acqL g) (.tail _ (.tail _ (.tail _ (.tail _ (.tail _ (.head _)))))))) (HP23.out.at_ (b := bopf) (c := copf) (L := optL (pfL g Ls)) (.head _))) (HP23.out.at_ (b := brd) (c := crd) (L := rdI g) (.tail _ (.tail _ (.tail _ (.tail _ (.tail _ (.tail _ (.tail _ (.tail _ (.tail _ (.tail _ (.tail _ (.tail _ (.head _))))))))))))))) (HP23.out.at_ (b := bs 1) (c := cs 1) (L := Ls 1) (.tail _ (.tail _ (.tail _ (.tail _ (.tail _ (.tail _ (.tail _ (.tail _ (.tail _ (.tail _ (.tail _ (.tail _ (.tail _ (.tail _ (.tail _ (.head _)))))))))))))))))) (HP23.out.at_ (b := brs) (c := crs) (L := rsL g Ls) (.tail _ (.tail _ (.tail _ (.tail _ (.head _))))))) (HP23.out.at_ (b := bofp) (c := cofp) (L := optL (fpL g Ls)) (.tail _ (.tail _ (.head _))))))
                clear HP23
                generalize W23.alloc (.cells #[pv bofp, pv brs, pv (bs 1), pv brd, pv bopf, pv bacq] 43) = W24 at *
                generalize W23.heap.size = s24 at *
                clear hHeld
                refine hK.out _ _ ⟨(HP24.out.fx.cell rfl), (HP24.out.fx.cell rfl), (HP24.out.mo.cell rfl)⟩ (fun hHeld => ?_)
                clear hK K
                try simp only [zz]
                refine wpAnyH_ready (rs := [24]) (by kernel_rfl) (by simp) ?_
                refine rdy rfl (fun K hK => ?_) AllReadyH.nil
                simp only [z1, z2, z3]
                go_simp
                refine (HP24.out.calls_rel (swL g Ls) (rcChain_named (brel) (crel) s24 (relL g) [(bofp, cofp, optL (fpL g Ls)), (brs, crs, rsL g Ls), (bs 1, cs 1, Ls 1), (brd, crd, rdI g), (bopf, copf, optL (pfL g Ls)), (bacq, cacq, acqL g)] [optL (fpL g Ls), rsL g Ls, Ls 1, rdI g, optL (pfL g Ls), acqL g] (map3_cons (map3_cons (map3_cons (map3_cons (map3_cons (map3_cons (map3_nil))))))) _ (HP24.out.at_ (.tail _ (.tail _ (.tail _ (.tail _ (.tail _ (.tail _ (.tail _ (.tail _ (.head _)))))))))) HLt_24.out (by simp) (HT.out.step' HP24.out.low)) (swL_eq ..)).mono ?_
                rintro e W25 ⟨bsw, csw, rfl, HP25, HB25⟩
                clear HP24 HB25
                clear HLt_24
                clear hHeld
                refine hK.out _ _ ⟨(HP25.out.fx.cell rfl), (HP25.out.fx.cell rfl), (HP25.out.mo.cell rfl)⟩ (fun hHeld => ?_)
                clear hK K
                try simp only [zz]
                refine tk 25 rfl ?_; simp only [zz]
                refine tk 26 rfl ?_; simp only [zz]
                refine tk 27 rfl ?_; simp only [zz]
                refine wpAnyH_ready (rs := [28]) (by kernel_rfl) (by simp) ?_
                refine rdy rfl (fun K hK => ?_) AllReadyH.nil
                have HP26 := hid_of (HP25.out.put hm0 1 (by omega) (pv bsw))
                have cs0 := HP25.out.mo.cell (j := 22) (v := (updR (r) 0 (pv brs)) 1) rfl
                have fz0 := HP25.out.mo.frozen 22
                simp only [z1, z2, z3]
                go_simp
                clear cs0 fz0 HP25
                clear hHeld
                refine hK.out _ _ ⟨(HP26.out.fx.cell rfl), (HP26.out.fx.cell rfl), (HP26.out.mo.cell rfl)⟩ (fun hHeld => ?_)
                clear hK K
                try simp only [zz]
                refine wpAnyH_done (by kernel_rfl) ?_ _
                clear hHeld
                go_wp2_with fail
                go_meet
                case rel => exact ⟨bsw, csw, ⟨HP26.out.low, HP26.out.tch, HP26.out.mo, HP26.out.fx, HP26.out.rd, HP26.out.wt, HP26.out.fe, (Rels.cons (Rels.cons (Rels.cons (Rels.cons (Rels.cons (Rels.cons (Rels.cons (Rels.cons (Rels.cons (Rels.cons (Rels.cons (Rels.cons (Rels.cons (Rels.cons (Rels.cons (Rels.cons (Rels.cons (Rels.nil _) (HP26.out.at_ (b := bs 5) (c := cs 5) (L := Ls 5) (.tail _ (.tail _ (.tail _ (.tail _ (.tail _ (.tail _ (.tail _ (.tail _ (.tail _ (.tail _ (.tail _ (.tail _ (.tail _ (.tail _ (.tail _ (.tail _ (.tail _ (.tail _ (.tail _ (.tail _ (.head _))))))))))))))))))))))) (HP26.out.at_ (b := bs 4) (c := cs 4) (L := Ls 4) (.tail _ (.tail _ (.tail _ (.tail _ (.tail _ (.tail _ (.tail _ (.tail _ (.tail _ (.tail _ (.tail _ (.tail _ (.tail _ (.tail _ (.tail _ (.tail _ (.tail _ (.tail _ (.tail _ (.head _)))))))))))))))))))))) (HP26.out.at_ (b := bs 3) (c := cs 3) (L := Ls 3) (.tail _ (.tail _ (.tail _ (.tail _ (.tail _ (.tail _ (.tail _ (.tail _ (.tail _ (.tail _ (.tail _ (.tail _ (.tail _ (.tail _ (.tail _ (.tail _ (.tail _ (.tail _ (.head _))))))))))))))))))))) (HP26.out.at_ (b := bs 2) (c := cs 2) (L := Ls 2) (.tail _ (.tail _ (.tail _ (.tail _ (.tail _ (.tail _ (.tail _ (.tail _ (.tail _ (.tail _ (.tail _ (.tail _ (.tail _ (.tail _ (.tail _ (.tail _ (.tail _ (.head _)))))))))))))))))))) (HP26.out.at_ (b := bs 1) (c := cs 1) (L := Ls 1) (.tail _ (.tail _ (.tail _ (.tail _ (.tail _ (.tail _ (.tail _ (.tail _ (.tail _ (.tail _ (.tail _ (.tail _ (.tail _ (.tail _ (.tail _ (.tail _ (.head _))))))))))))))))))) (HP26.out.at_ (b := bs 0) (c := cs 0) (L := Ls 0) (.tail _ (.tail _ (.tail _ (.tail _ (.tail _ (.tail _ (.tail _ (.tail _ (.tail _ (.tail _ (.tail _ (.tail _ (.tail _ (.tail _ (.tail _ (.head _)))))))))))))))))) (HP26.out.at_ (b := bwr) (c := cwr) (L := wrI g) (.tail _ (.tail _ (.tail _ (.tail _ (.tail _ (.tail _ (.tail _ (.tail _ (.tail _ (.tail _ (.tail _ (.tail _ (.tail _ (.tail _ (.head _))))))))))))))))) (HP26.out.at_ (b := brd) (c := crd) (L := rdI g) (.tail _ (.tail _ (.tail _ (.tail _ (.tail _ (.tail _ (.tail _ (.tail _ (.tail _ (.tail _ (.tail _ (.tail _ (.tail _ (.head _)))))))))))))))) (HP26.out.at_ (b := bfe) (c := cfe) (L := feI g) (.tail _ (.tail _ (.tail _ (.tail _ (.tail _ (.tail _ (.tail _ (.tail _ (.tail _ (.tail _ (.tail _ (.tail _ (.head _))))))))))))))) (HP26.out.at_ (b := bmr) (c := cmr) (L := mrI g) (.tail _ (.tail _ (.tail _ (.tail _ (.tail _ (.tail _ (.tail _ (.tail _ (.tail _ (.tail _ (.tail _ (.head _)))))))))))))) (HP26.out.at_ (b := bur) (c := cur) (L := urL g) (.tail _ (.tail _ (.tail _ (.tail _ (.tail _ (.tail _ (.tail _ (.tail _ (.tail _ (.tail _ (.head _))))))))))))) (HP26.out.at_ (b := brel) (c := crel) (L := relL g) (.tail _ (.tail _ (.tail _ (.tail _ (.tail _ (.tail _ (.tail _ (.tail _ (.tail _ (.head _)))))))))))) (HP26.out.at_ (b := bma) (c := cma) (L := maI g) (.tail _ (.tail _ (.tail _ (.tail _ (.tail _ (.tail _ (.tail _ (.tail _ (.head _))))))))))) (HP26.out.at_ (b := bua) (c := cua) (L := uaL g) (.tail _ (.tail _ (.tail _ (.tail _ (.tail _ (.tail _ (.tail _ (.head _)))))))))) (HP26.out.at_ (b := bacq) (c := cacq) (L := acqL g) (.tail _ (.tail _ (.tail _ (.tail _ (.tail _ (.tail _ (.head _))))))))) (HP26.out.at_ (b := brs) (c := crs) (L := rsL g Ls) (.tail _ (.tail _ (.tail _ (.tail _ (.tail _ (.head _)))))))) (HP26.out.at_ (b := bsw) (c := csw) (L := swL g Ls) (.head _)))⟩⟩
            · as_aux_lemma =>
                simp only [z1, z2, z3]
                refine op_build #[(0, pv bfe)] (by kernel_rfl) (bs1_run bfe _) ?_
                have HP20 := hid_of (HP19.out.alloc (.cells #[pv bfe] 43))
                have HLq_20 : Hid (RelsAt (W19.alloc (.cells #[pv bfe] 43)) W19.heap.size [(bfe, cfe, feI g)]) := rels_at [(bfe, cfe, feI g)] ((Rels.cons (Rels.nil _) (HP19.out.at_ (b := bfe) (c := cfe) (L := feI g) (.tail _ (.tail _ (.tail _ (.tail _ (.tail _ (.tail _ (.tail _ (.tail _ (.head _))))))))))))
                clear HP19
                generalize W19.alloc (.cells #[pv bfe] 43) = W20 at *
                generalize W19.heap.size = s20 at *
                clear hHeld
                refine hK.out _ _ ⟨(HP20.out.fx.cell rfl), (HP20.out.fx.cell rfl), (HP20.out.mo.cell rfl)⟩ (fun hHeld => ?_)
                clear hK K
                try simp only [zz]
                refine wpAnyH_ready (rs := [7]) (by kernel_rfl) (by simp) ?_
                refine rdy rfl (fun K hK => ?_) AllReadyH.nil
                simp only [z1, z2, z3]
                go_simp
                refine (HP20.out.calls_made (optL (fpL g Ls)) (Opt_calls (bfp) (cfp) (fpL g Ls) _ (HP20.out.at_ (.head _))) (rfl)).mono ?_
                rintro e W21 ⟨bofp, cofp, rfl, HP21, HB21⟩
                have HLq_21 := hid_of (HLq_20.out.below HB21.out)
                clear HLq_20
                clear HP20 HB21
                clear hHeld
                refine hK.out _ _ ⟨(HP21.out.fx.cell rfl), (HP21.out.fx.cell rfl), (HP21.out.mo.cell rfl)⟩ (fun hHeld => ?_)
                clear hK K
                try simp only [zz]
                refine wpAnyH_ready (rs := [20]) (by kernel_rfl) (by simp) ?_
                refine rdy rfl (fun K hK => ?_) AllReadyH.nil
                simp only [z1, z2, z3]
                go_simp
                refine (HP21.out.calls_rel (pfL g Ls) (rcChain_named (bs 0) (cs 0) s20 (Ls 0) [(bfe, cfe, feI g)] [feI g] (map3_cons (map3_nil)) _ (HP21.out.at_ (.tail _ (.tail _ (.tail _ (.tail _ (.tail _ (.tail _ (.tail _ (.tail _ (.tail _ (.tail _ (.tail _ (.tail _ (.head _)))))))))))))) HLq_21.out (by simp) (HT.out.step' HP21.out.low)) (pfL_eq ..)).mono ?_
                rintro e W22 ⟨bpf, cpf, rfl, HP22, HB22⟩
                clear HP21 HB22
                clear HLq_21
                clear hHeld
                refine hK.out _ _ ⟨(HP22.out.fx.cell rfl), (HP22.out.fx.cell rfl), (HP22.out.mo.cell rfl)⟩ (fun hHeld => ?_)
                clear hK K
                try simp only [zz]
                refine wpAnyH_ready (rs := [21]) (by kernel_rfl) (by simp) ?_
                refine rdy rfl (fun K hK => ?_) AllReadyH.nil
                simp only [z1, z2, z3]
                go_simp
                refine (HP22.out.calls_made (optL (pfL g Ls)) (Opt_calls (bpf) (cpf) (pfL g Ls) _ (HP22.out.at_ (.head _))) (rfl)).mono ?_
                rintro e W23 ⟨bopf, copf, rfl, HP23, HB23⟩
                clear HP22 HB23
                clear hHeld
                refine hK.out _ _ ⟨(HP23.out.fx.cell rfl), (HP23.out.fx.cell rfl), (HP23.out.mo.cell rfl)⟩ (fun hHeld => ?_)
                clear hK K
                try simp only [zz]
                refine wpAnyH_ready (rs := [23]) (by kernel_rfl) (by simp) ?_
                refine rdy rfl (fun K hK => ?_) AllReadyH.nil
                simp only [z1, z2, z3]
                refine op_build #[(0, pv bofp), (1, pv brs), (2, pv (bs 1)), (3, pv brd), (4, pv bopf), (5, pv bacq)] (by kernel_rfl) (bs6_run bofp brs (bs 1) brd bopf bacq _) ?_
                have HP24 := hid_of (HP23.out.alloc (.cells #[pv bofp, pv brs, pv (bs 1), pv brd, pv bopf, pv bacq] 43))
                have HLt_24 : Hid (RelsAt (W23.alloc (.cells #[pv bofp, pv brs, pv (bs 1), pv brd, pv bopf, pv bacq] 43)) W23.heap.size [(bofp, cofp, optL (fpL g Ls)), (brs, crs, rsL g Ls), (bs 1, cs 1, Ls 1), (brd, crd, rdI g), (bopf, copf, optL (pfL g Ls)), (bacq, cacq, acqL g)]) := rels_at [(bofp, cofp, optL (fpL g Ls)), (brs, crs, rsL g Ls), (bs 1, cs 1, Ls 1), (brd, crd, rdI g), (bopf, copf, optL (pfL g Ls)), (bacq, cacq, acqL g)] ((Rels.cons (Rels.cons (Rels.cons (Rels.cons (Rels.cons (Rels.cons (Rels.nil _) (HP23.out.at_ (b := bacq) (c := cacq) (L := acqL g) (.tail _ (.tail _ (.tail _ (.tail _ (.tail _ (.head _)))))))) (HP23.out.at_ (b := bopf) (c := copf) (L := optL (pfL g Ls)) (.head _))) (HP23.out.at_ (b := brd) (c := crd) (L := rdI g) (.tail _ (.tail _ (.tail _ (.tail _ (.tail _ (.tail _ (.tail _ (.tail _ (.tail _ (.tail _ (.tail _ (.tail _ (.head _))))))))))))))) (HP23.out.at_ (b := bs 1) (c := cs 1) (L := Ls 1) (.tail _ (.tail _ (.tail _ (.tail _ (.tail _ (.tail _ (.tail _ (.tail _ (.tail _ (.tail _ (.tail _ (.tail _ (.tail _ (.tail _ (.tail _ (.head _)))))))))))))))))) (HP23.out.at_ (b := brs) (c := crs) (L := rsL g Ls) (.tail _ (.tail _ (.tail _ (.tail _ (.head _))))))) (HP23.out.at_ (b := bofp) (c := cofp) (L := optL (fpL g Ls)) (.tail _ (.tail _ (.head _))))))
                clear HP23
                generalize W23.alloc (.cells #[pv bofp, pv brs, pv (bs 1), pv brd, pv bopf, pv bacq] 43) = W24 at *
                generalize W23.heap.size = s24 at *
                clear hHeld
                refine hK.out _ _ ⟨(HP24.out.fx.cell rfl), (HP24.out.fx.cell rfl), (HP24.out.mo.cell rfl)⟩ (fun hHeld => ?_)
                clear hK K
                try simp only [zz]
                refine wpAnyH_ready (rs := [24]) (by kernel_rfl) (by simp) ?_
                refine rdy rfl (fun K hK => ?_) AllReadyH.nil
                simp only [z1, z2, z3]
                go_simp
                refine (HP24.out.calls_rel (swL g Ls) (rcChain_named (brel) (crel) s24 (relL g) [(bofp, cofp, optL (fpL g Ls)), (brs, crs, rsL g Ls), (bs 1, cs 1, Ls 1), (brd, crd, rdI g), (bopf, copf, optL (pfL g Ls)), (bacq, cacq, acqL g)] [optL (fpL g Ls), rsL g Ls, Ls 1, rdI g, optL (pfL g Ls), acqL g] (map3_cons (map3_cons (map3_cons (map3_cons (map3_cons (map3_cons (map3_nil))))))) _ (HP24.out.at_ (.tail _ (.tail _ (.tail _ (.tail _ (.tail _ (.tail _ (.tail _ (.tail _ (.head _)))))))))) HLt_24.out (by simp) (HT.out.step' HP24.out.low)) (swL_eq ..)).mono ?_
                rintro e W25 ⟨bsw, csw, rfl, HP25, HB25⟩
                clear HP24 HB25
                clear HLt_24
                clear hHeld
                refine hK.out _ _ ⟨(HP25.out.fx.cell rfl), (HP25.out.fx.cell rfl), (HP25.out.mo.cell rfl)⟩ (fun hHeld => ?_)
                clear hK K
                try simp only [zz]
                refine tk 25 rfl ?_; simp only [zz]
                refine tk 26 rfl ?_; simp only [zz]
                refine tk 27 rfl ?_; simp only [zz]
                refine wpAnyH_ready (rs := [28]) (by kernel_rfl) (by simp) ?_
                refine rdy rfl (fun K hK => ?_) AllReadyH.nil
                have HP26 := hid_of (HP25.out.put hm0 1 (by omega) (pv bsw))
                have cs0 := HP25.out.mo.cell (j := 22) (v := (updR (r) 0 (pv brs)) 1) rfl
                have fz0 := HP25.out.mo.frozen 22
                simp only [z1, z2, z3]
                go_simp
                clear cs0 fz0 HP25
                clear hHeld
                refine hK.out _ _ ⟨(HP26.out.fx.cell rfl), (HP26.out.fx.cell rfl), (HP26.out.mo.cell rfl)⟩ (fun hHeld => ?_)
                clear hK K
                try simp only [zz]
                refine wpAnyH_done (by kernel_rfl) ?_ _
                clear hHeld
                go_wp2_with fail
                go_meet
                case rel => exact ⟨bsw, csw, ⟨HP26.out.low, HP26.out.tch, HP26.out.mo, HP26.out.fx, HP26.out.rd, HP26.out.wt, HP26.out.fe, (Rels.cons (Rels.cons (Rels.cons (Rels.cons (Rels.cons (Rels.cons (Rels.cons (Rels.cons (Rels.cons (Rels.cons (Rels.cons (Rels.cons (Rels.cons (Rels.cons (Rels.cons (Rels.cons (Rels.cons (Rels.nil _) (HP26.out.at_ (b := bs 5) (c := cs 5) (L := Ls 5) (.tail _ (.tail _ (.tail _ (.tail _ (.tail _ (.tail _ (.tail _ (.tail _ (.tail _ (.tail _ (.tail _ (.tail _ (.tail _ (.tail _ (.tail _ (.tail _ (.tail _ (.tail _ (.tail _ (.tail _ (.head _))))))))))))))))))))))) (HP26.out.at_ (b := bs 4) (c := cs 4) (L := Ls 4) (.tail _ (.tail _ (.tail _ (.tail _ (.tail _ (.tail _ (.tail _ (.tail _ (.tail _ (.tail _ (.tail _ (.tail _ (.tail _ (.tail _ (.tail _ (.tail _ (.tail _ (.tail _ (.tail _ (.head _)))))))))))))))))))))) (HP26.out.at_ (b := bs 3) (c := cs 3) (L := Ls 3) (.tail _ (.tail _ (.tail _ (.tail _ (.tail _ (.tail _ (.tail _ (.tail _ (.tail _ (.tail _ (.tail _ (.tail _ (.tail _ (.tail _ (.tail _ (.tail _ (.tail _ (.tail _ (.head _))))))))))))))))))))) (HP26.out.at_ (b := bs 2) (c := cs 2) (L := Ls 2) (.tail _ (.tail _ (.tail _ (.tail _ (.tail _ (.tail _ (.tail _ (.tail _ (.tail _ (.tail _ (.tail _ (.tail _ (.tail _ (.tail _ (.tail _ (.tail _ (.tail _ (.head _)))))))))))))))))))) (HP26.out.at_ (b := bs 1) (c := cs 1) (L := Ls 1) (.tail _ (.tail _ (.tail _ (.tail _ (.tail _ (.tail _ (.tail _ (.tail _ (.tail _ (.tail _ (.tail _ (.tail _ (.tail _ (.tail _ (.tail _ (.tail _ (.head _))))))))))))))))))) (HP26.out.at_ (b := bs 0) (c := cs 0) (L := Ls 0) (.tail _ (.tail _ (.tail _ (.tail _ (.tail _ (.tail _ (.tail _ (.tail _ (.tail _ (.tail _ (.tail _ (.tail _ (.tail _ (.tail _ (.tail _ (.head _)))))))))))))))))) (HP26.out.at_ (b := bwr) (c := cwr) (L := wrI g) (.tail _ (.tail _ (.tail _ (.tail _ (.tail _ (.tail _ (.tail _ (.tail _ (.tail _ (.tail _ (.tail _ (.tail _ (.tail _ (.tail _ (.head _))))))))))))))))) (HP26.out.at_ (b := brd) (c := crd) (L := rdI g) (.tail _ (.tail _ (.tail _ (.tail _ (.tail _ (.tail _ (.tail _ (.tail _ (.tail _ (.tail _ (.tail _ (.tail _ (.tail _ (.head _)))))))))))))))) (HP26.out.at_ (b := bfe) (c := cfe) (L := feI g) (.tail _ (.tail _ (.tail _ (.tail _ (.tail _ (.tail _ (.tail _ (.tail _ (.tail _ (.tail _ (.tail _ (.tail _ (.head _))))))))))))))) (HP26.out.at_ (b := bmr) (c := cmr) (L := mrI g) (.tail _ (.tail _ (.tail _ (.tail _ (.tail _ (.tail _ (.tail _ (.tail _ (.tail _ (.tail _ (.tail _ (.head _)))))))))))))) (HP26.out.at_ (b := bur) (c := cur) (L := urL g) (.tail _ (.tail _ (.tail _ (.tail _ (.tail _ (.tail _ (.tail _ (.tail _ (.tail _ (.tail _ (.head _))))))))))))) (HP26.out.at_ (b := brel) (c := crel) (L := relL g) (.tail _ (.tail _ (.tail _ (.tail _ (.tail _ (.tail _ (.tail _ (.tail _ (.tail _ (.head _)))))))))))) (HP26.out.at_ (b := bma) (c := cma) (L := maI g) (.tail _ (.tail _ (.tail _ (.tail _ (.tail _ (.tail _ (.tail _ (.tail _ (.head _))))))))))) (HP26.out.at_ (b := bua) (c := cua) (L := uaL g) (.tail _ (.tail _ (.tail _ (.tail _ (.tail _ (.tail _ (.tail _ (.head _)))))))))) (HP26.out.at_ (b := bacq) (c := cacq) (L := acqL g) (.tail _ (.tail _ (.tail _ (.tail _ (.tail _ (.tail _ (.head _))))))))) (HP26.out.at_ (b := brs) (c := crs) (L := rsL g Ls) (.tail _ (.tail _ (.tail _ (.tail _ (.tail _ (.head _)))))))) (HP26.out.at_ (b := bsw) (c := csw) (L := swL g Ls) (.head _)))⟩⟩
        · as_aux_lemma =>
            simp only [z1, z2, z3]
            refine op_build #[(0, pv bfe)] (by kernel_rfl) (bs1_run bfe _) ?_
            have HP19 := hid_of (HP18.out.alloc (.cells #[pv bfe] 43))
            have HLq_19 : Hid (RelsAt (W18.alloc (.cells #[pv bfe] 43)) W18.heap.size [(bfe, cfe, feI g)]) := rels_at [(bfe, cfe, feI g)] ((Rels.cons (Rels.nil _) (HP18.out.at_ (b := bfe) (c := cfe) (L := feI g) (.tail _ (.tail _ (.tail _ (.tail _ (.tail _ (.tail _ (.tail _ (.head _)))))))))))
            have HLp_19 := hid_of (HLp_18.out.below ((Below.refl W18.heap.size W18).alloc (Nat.le_refl _) (.cells #[pv bfe] 43)))
            clear HLp_18
            clear HP18
            generalize W18.alloc (.cells #[pv bfe] 43) = W19 at *
            generalize W18.heap.size = s19 at *
            clear hHeld
            refine hK.out _ _ ⟨(HP19.out.fx.cell rfl), (HP19.out.fx.cell rfl), (HP19.out.mo.cell rfl)⟩ (fun hHeld => ?_)
            clear hK K
            try simp only [zz]
            refine wpAnyH_ready (rs := [6]) (by kernel_rfl) (by simp) ?_
            refine rdy rfl (fun K hK => ?_) AllReadyH.nil
            simp only [z1, z2, z3]
            go_simp
            refine (HP19.out.calls_rel (fpL g Ls) (rcChain_named (bfe) (cfe) s18 (feI g) [(bs 0, cs 0, Ls 0)] [Ls 0] (map3_cons (map3_nil)) _ (HP19.out.at_ (.tail _ (.tail _ (.tail _ (.tail _ (.tail _ (.tail _ (.tail _ (.head _))))))))) HLp_19.out (by simp) (HT.out.step' HP19.out.low)) (fpL_eq ..)).mono ?_
            rintro e W20 ⟨bfp, cfp, rfl, HP20, HB20⟩
            have HLq_20 := hid_of (HLq_19.out.below HB20.out)
            clear HLq_19
            clear HP19 HB20
            clear HLp_19
            clear hHeld
            refine hK.out _ _ ⟨(HP20.out.fx.cell rfl), (HP20.out.fx.cell rfl), (HP20.out.mo.cell rfl)⟩ (fun hHeld => ?_)
            clear hK K
            try simp only [zz]
            refine wpAnyH_ready (rs := [7]) (by kernel_rfl) (by simp) ?_
            refine rdy rfl (fun K hK => ?_) AllReadyH.nil
            simp only [z1, z2, z3]
            go_simp
            refine (HP20.out.calls_made (optL (fpL g Ls)) (Opt_calls (bfp) (cfp) (fpL g Ls) _ (HP20.out.at_ (.head _))) (rfl)).mono ?_
            rintro e W21 ⟨bofp, cofp, rfl, HP21, HB21⟩
            have HLq_21 := hid_of (HLq_20.out.below HB21.out)
            clear HLq_20
            clear HP20 HB21
            clear hHeld
            refine hK.out _ _ ⟨(HP21.out.fx.cell rfl), (HP21.out.fx.cell rfl), (HP21.out.mo.cell rfl)⟩ (fun hHeld => ?_)
            clear hK K
            try simp only [zz]
            refine wpAnyH_ready (rs := [20]) (by kernel_rfl) (by simp) ?_
            refine rdy rfl (fun K hK => ?_) AllReadyH.nil
            simp only [z1, z2, z3]
            go_simp
            refine (HP21.out.calls_rel (pfL g Ls) (rcChain_named (bs 0) (cs 0) s19 (Ls 0) [(bfe, cfe, feI g)] [feI g] (map3_cons (map3_nil)) _ (HP21.out.at_ (.tail _ (.tail _ (.tail _ (.tail _ (.tail _ (.tail _ (.tail _ (.tail _ (.tail _ (.tail _ (.tail _ (.tail _ (.head _)))))))))))))) HLq_21.out (by simp) (HT.out.step' HP21.out.low)) (pfL_eq ..)).mono ?_
            rintro e W22 ⟨bpf, cpf, rfl, HP22, HB22⟩
            clear HP21 HB22
            clear HLq_21
            clear hHeld
            refine hK.out _ _ ⟨(HP22.out.fx.cell rfl), (HP22.out.fx.cell rfl), (HP22.out.mo.cell rfl)⟩ (fun hHeld => ?_)
            clear hK K
            try simp only [zz]
            refine wpAnyH_ready (rs := [21]) (by kernel_rfl) (by simp) ?_
            refine rdy rfl (fun K hK => ?_) AllReadyH.nil
            simp only [z1, z2, z3]
            go_simp
            refine (HP22.out.calls_made (optL (pfL g Ls)) (Opt_calls (bpf) (cpf) (pfL g Ls) _ (HP22.out.at_ (.head _))) (rfl)).mono ?_
            rintro e W23 ⟨bopf, copf, rfl, HP23, HB23⟩
            clear HP22 HB23
            clear hHeld
            refine hK.out _ _ ⟨(HP23.out.fx.cell rfl), (HP23.out.fx.cell rfl), (HP23.out.mo.cell rfl)⟩ (fun hHeld => ?_)
            clear hK K
            try simp only [zz]
            refine wpAnyH_ready (rs := [23]) (by kernel_rfl) (by simp) ?_
            refine rdy rfl (fun K hK => ?_) AllReadyH.nil
            simp only [z1, z2, z3]
            refine op_build #[(0, pv bofp), (1, pv brs), (2, pv (bs 1)), (3, pv brd), (4, pv bopf), (5, pv bacq)] (by kernel_rfl) (bs6_run bofp brs (bs 1) brd bopf bacq _) ?_
            have HP24 := hid_of (HP23.out.alloc (.cells #[pv bofp, pv brs, pv (bs 1), pv brd, pv bopf, pv bacq] 43))
            have HLt_24 : Hid (RelsAt (W23.alloc (.cells #[pv bofp, pv brs, pv (bs 1), pv brd, pv bopf, pv bacq] 43)) W23.heap.size [(bofp, cofp, optL (fpL g Ls)), (brs, crs, rsL g Ls), (bs 1, cs 1, Ls 1), (brd, crd, rdI g), (bopf, copf, optL (pfL g Ls)), (bacq, cacq, acqL g)]) := rels_at [(bofp, cofp, optL (fpL g Ls)), (brs, crs, rsL g Ls), (bs 1, cs 1, Ls 1), (brd, crd, rdI g), (bopf, copf, optL (pfL g Ls)), (bacq, cacq, acqL g)] ((Rels.cons (Rels.cons (Rels.cons (Rels.cons (Rels.cons (Rels.cons (Rels.nil _) (HP23.out.at_ (b := bacq) (c := cacq) (L := acqL g) (.tail _ (.tail _ (.tail _ (.tail _ (.tail _ (.head _)))))))) (HP23.out.at_ (b := bopf) (c := copf) (L := optL (pfL g Ls)) (.head _))) (HP23.out.at_ (b := brd) (c := crd) (L := rdI g) (.tail _ (.tail _ (.tail _ (.tail _ (.tail _ (.tail _ (.tail _ (.tail _ (.tail _ (.tail _ (.tail _ (.tail _ (.head _))))))))))))))) (HP23.out.at_ (b := bs 1) (c := cs 1) (L := Ls 1) (.tail _ (.tail _ (.tail _ (.tail _ (.tail _ (.tail _ (.tail _ (.tail _ (.tail _ (.tail _ (.tail _ (.tail _ (.tail _ (.tail _ (.tail _ (.head _)))))))))))))))))) (HP23.out.at_ (b := brs) (c := crs) (L := rsL g Ls) (.tail _ (.tail _ (.tail _ (.tail _ (.head _))))))) (HP23.out.at_ (b := bofp) (c := cofp) (L := optL (fpL g Ls)) (.tail _ (.tail _ (.head _))))))
            clear HP23
            generalize W23.alloc (.cells #[pv bofp, pv brs, pv (bs 1), pv brd, pv bopf, pv bacq] 43) = W24 at *
            generalize W23.heap.size = s24 at *
            clear hHeld
            refine hK.out _ _ ⟨(HP24.out.fx.cell rfl), (HP24.out.fx.cell rfl), (HP24.out.mo.cell rfl)⟩ (fun hHeld => ?_)
            clear hK K
            try simp only [zz]
            refine wpAnyH_ready (rs := [24]) (by kernel_rfl) (by simp) ?_
            refine rdy rfl (fun K hK => ?_) AllReadyH.nil
            simp only [z1, z2, z3]
            go_simp
            refine (HP24.out.calls_rel (swL g Ls) (rcChain_named (brel) (crel) s24 (relL g) [(bofp, cofp, optL (fpL g Ls)), (brs, crs, rsL g Ls), (bs 1, cs 1, Ls 1), (brd, crd, rdI g), (bopf, copf, optL (pfL g Ls)), (bacq, cacq, acqL g)] [optL (fpL g Ls), rsL g Ls, Ls 1, rdI g, optL (pfL g Ls), acqL g] (map3_cons (map3_cons (map3_cons (map3_cons (map3_cons (map3_cons (map3_nil))))))) _ (HP24.out.at_ (.tail _ (.tail _ (.tail _ (.tail _ (.tail _ (.tail _ (.tail _ (.tail _ (.head _)))))))))) HLt_24.out (by simp) (HT.out.step' HP24.out.low)) (swL_eq ..)).mono ?_
            rintro e W25 ⟨bsw, csw, rfl, HP25, HB25⟩
            clear HP24 HB25
            clear HLt_24
            clear hHeld
            refine hK.out _ _ ⟨(HP25.out.fx.cell rfl), (HP25.out.fx.cell rfl), (HP25.out.mo.cell rfl)⟩ (fun hHeld => ?_)
            clear hK K
            try simp only [zz]
            refine tk 25 rfl ?_; simp only [zz]
            refine tk 26 rfl ?_; simp only [zz]
            refine tk 27 rfl ?_; simp only [zz]
            refine wpAnyH_ready (rs := [28]) (by kernel_rfl) (by simp) ?_
            refine rdy rfl (fun K hK => ?_) AllReadyH.nil
            have HP26 := hid_of (HP25.out.put hm0 1 (by omega) (pv bsw))
            have cs0 := HP25.out.mo.cell (j := 22) (v := (updR (r) 0 (pv brs)) 1) rfl
            have fz0 := HP25.out.mo.frozen 22
            simp only [z1, z2, z3]
            go_simp
            clear cs0 fz0 HP25
            clear hHeld
            refine hK.out _ _ ⟨(HP26.out.fx.cell rfl), (HP26.out.fx.cell rfl), (HP26.out.mo.cell rfl)⟩ (fun hHeld => ?_)
            clear hK K
            try simp only [zz]
            refine wpAnyH_done (by kernel_rfl) ?_ _
            clear hHeld
            go_wp2_with fail
            go_meet
            case rel => exact ⟨bsw, csw, ⟨HP26.out.low, HP26.out.tch, HP26.out.mo, HP26.out.fx, HP26.out.rd, HP26.out.wt, HP26.out.fe, (Rels.cons (Rels.cons (Rels.cons (Rels.cons (Rels.cons (Rels.cons (Rels.cons (Rels.cons (Rels.cons (Rels.cons (Rels.cons (Rels.cons (Rels.cons (Rels.cons (Rels.cons (Rels.cons (Rels.cons (Rels.nil _) (HP26.out.at_ (b := bs 5) (c := cs 5) (L := Ls 5) (.tail _ (.tail _ (.tail _ (.tail _ (.tail _ (.tail _ (.tail _ (.tail _ (.tail _ (.tail _ (.tail _ (.tail _ (.tail _ (.tail _ (.tail _ (.tail _ (.tail _ (.tail _ (.tail _ (.tail _ (.head _))))))))))))))))))))))) (HP26.out.at_ (b := bs 4) (c := cs 4) (L := Ls 4) (.tail _ (.tail _ (.tail _ (.tail _ (.tail _ (.tail _ (.tail _ (.tail _ (.tail _ (.tail _ (.tail _ (.tail _ (.tail _ (.tail _ (.tail _ (.tail _ (.tail _ (.tail _ (.tail _ (.head _)))))))))))))))))))))) (HP26.out.at_ (b := bs 3) (c := cs 3) (L := Ls 3) (.tail _ (.tail _ (.tail _ (.tail _ (.tail _ (.tail _ (.tail _ (.tail _ (.tail _ (.tail _ (.tail _ (.tail _ (.tail _ (.tail _ (.tail _ (.tail _ (.tail _ (.tail _ (.head _))))))))))))))))))))) (HP26.out.at_ (b := bs 2) (c := cs 2) (L := Ls 2) (.tail _ (.tail _ (.tail _ (.tail _ (.tail _ (.tail _ (.tail _ (.tail _ (.tail _ (.tail _ (.tail _ (.tail _ (.tail _ (.tail _ (.tail _ (.tail _ (.tail _ (.head _)))))))))))))))))))) (HP26.out.at_ (b := bs 1) (c := cs 1) (L := Ls 1) (.tail _ (.tail _ (.tail _ (.tail _ (.tail _ (.tail _ (.tail _ (.tail _ (.tail _ (.tail _ (.tail _ (.tail _ (.tail _ (.tail _ (.tail _ (.tail _ (.head _))))))))))))))))))) (HP26.out.at_ (b := bs 0) (c := cs 0) (L := Ls 0) (.tail _ (.tail _ (.tail _ (.tail _ (.tail _ (.tail _ (.tail _ (.tail _ (.tail _ (.tail _ (.tail _ (.tail _ (.tail _ (.tail _ (.tail _ (.head _)))))))))))))))))) (HP26.out.at_ (b := bwr) (c := cwr) (L := wrI g) (.tail _ (.tail _ (.tail _ (.tail _ (.tail _ (.tail _ (.tail _ (.tail _ (.tail _ (.tail _ (.tail _ (.tail _ (.tail _ (.tail _ (.head _))))))))))))))))) (HP26.out.at_ (b := brd) (c := crd) (L := rdI g) (.tail _ (.tail _ (.tail _ (.tail _ (.tail _ (.tail _ (.tail _ (.tail _ (.tail _ (.tail _ (.tail _ (.tail _ (.tail _ (.head _)))))))))))))))) (HP26.out.at_ (b := bfe) (c := cfe) (L := feI g) (.tail _ (.tail _ (.tail _ (.tail _ (.tail _ (.tail _ (.tail _ (.tail _ (.tail _ (.tail _ (.tail _ (.tail _ (.head _))))))))))))))) (HP26.out.at_ (b := bmr) (c := cmr) (L := mrI g) (.tail _ (.tail _ (.tail _ (.tail _ (.tail _ (.tail _ (.tail _ (.tail _ (.tail _ (.tail _ (.tail _ (.head _)))))))))))))) (HP26.out.at_ (b := bur) (c := cur) (L := urL g) (.tail _ (.tail _ (.tail _ (.tail _ (.tail _ (.tail _ (.tail _ (.tail _ (.tail _ (.tail _ (.head _))))))))))))) (HP26.out.at_ (b := brel) (c := crel) (L := relL g) (.tail _ (.tail _ (.tail _ (.tail _ (.tail _ (.tail _ (.tail _ (.tail _ (.tail _ (.head _)))))))))))) (HP26.out.at_ (b := bma) (c := cma) (L := maI g) (.tail _ (.tail _ (.tail _ (.tail _ (.tail _ (.tail _ (.tail _ (.tail _ (.head _))))))))))) (HP26.out.at_ (b := bua) (c := cua) (L := uaL g) (.tail _ (.tail _ (.tail _ (.tail _ (.tail _ (.tail _ (.tail _ (.head _)))))))))) (HP26.out.at_ (b := bacq) (c := cacq) (L := acqL g) (.tail _ (.tail _ (.tail _ (.tail _ (.tail _ (.tail _ (.head _))))))))) (HP26.out.at_ (b := brs) (c := crs) (L := rsL g Ls) (.tail _ (.tail _ (.tail _ (.tail _ (.tail _ (.head _)))))))) (HP26.out.at_ (b := bsw) (c := csw) (L := swL g Ls) (.head _)))⟩⟩
    · as_aux_lemma =>
        simp only [z1, z2, z3]
        refine op_build #[(0, pv bfe)] (by kernel_rfl) (bs1_run bfe _) ?_
        have HP18 := hid_of (HP17.out.alloc (.cells #[pv bfe] 43))
        have HLq_18 : Hid (RelsAt (W17.alloc (.cells #[pv bfe] 43)) W17.heap.size [(bfe, cfe, feI g)]) := rels_at [(bfe, cfe, feI g)] ((Rels.cons (Rels.nil _) (HP17.out.at_ (b := bfe) (c := cfe) (L := feI g) (.tail _ (.tail _ (.tail _ (.tail _ (.tail _ (.tail _ (.tail _ (.head _)))))))))))
        clear HP17
        generalize W17.alloc (.cells #[pv bfe] 43) = W18 at *
        generalize W17.heap.size = s18 at *
        clear hHeld
        refine hK.out _ _ ⟨(HP18.out.fx.cell rfl), (HP18.out.fx.cell rfl), (HP18.out.mo.cell rfl)⟩ (fun hHeld => ?_)
        clear hK K
        try simp only [zz]
        refine wpAnyH_ready (rs := [5]) (by kernel_rfl) (by simp) ?_
        refine rdy rfl (fun K hK => ?_) AllReadyH.nil
        simp only [z1, z2, z3]
        refine op_build #[(0, pv (bs 0))] (by kernel_rfl) (bs1_run (bs 0) _) ?_
        have HP19 := hid_of (HP18.out.alloc (.cells #[pv (bs 0)] 43))
        have HLp_19 : Hid (RelsAt (W18.alloc (.cells #[pv (bs 0)] 43)) W18.heap.size [(bs 0, cs 0, Ls 0)]) := rels_at [(bs 0, cs 0, Ls 0)] ((Rels.cons (Rels.nil _) (HP18.out.at_ (b := bs 0) (c := cs 0) (L := Ls 0) (.tail _ (.tail _ (.tail _ (.tail _ (.tail _ (.tail _ (.tail _ (.tail _ (.tail _ (.tail _ (.head _))))))))))))))
        have HLq_19 := hid_of (HLq_18.out.below ((Below.refl W18.heap.size W18).alloc (Nat.le_refl _) (.cells #[pv (bs 0)] 43)))
        clear HLq_18
        clear HP18
        generalize W18.alloc (.cells #[pv (bs 0)] 43) = W19 at *
        generalize W18.heap.size = s19 at *
        clear hHeld
        refine hK.out _ _ ⟨(HP19.out.fx.cell rfl), (HP19.out.fx.cell rfl), (HP19.out.mo.cell rfl)⟩ (fun hHeld => ?_)
        clear hK K
        try simp only [zz]
        refine wpAnyH_ready (rs := [6]) (by kernel_rfl) (by simp) ?_
        refine rdy rfl (fun K hK => ?_) AllReadyH.nil
        simp only [z1, z2, z3]
        go_simp
        refine (HP19.out.calls_rel (fpL g Ls) (rcChain_named (bfe) (cfe) s19 (feI g) [(bs 0, cs 0, Ls 0)] [Ls 0] (map3_cons (map3_nil)) _ (HP19.out.at_ (.tail _ (.tail _ (.tail _ (.tail _ (.tail _ (.tail _ (.tail _ (.head _))))))))) HLp_19.out (by simp) (HT.out.step' HP19.out.low)) (fpL_eq ..)).mono ?_
        rintro e W20 ⟨bfp, cfp, rfl, HP20, HB20⟩
        have HLq_20 := hid_of (HLq_19.out.below HB20.out)
        clear HLq_19
        clear HP19 HB20
        clear HLp_19
        clear hHeld
        refine hK.out _ _ ⟨(HP20.out.fx.cell rfl), (HP20.out.fx.cell rfl), (HP20.out.mo.cell rfl)⟩ (fun hHeld => ?_)
        clear hK K
        try simp only [zz]
        refine wpAnyH_ready (rs := [7]) (by kernel_rfl) (by simp) ?_
        refine rdy rfl (fun K hK => ?_) AllReadyH.nil
        simp only [z1, z2, z3]
        go_simp
        refine (HP20.out.calls_made (optL (fpL g Ls)) (Opt_calls (bfp) (cfp) (fpL g Ls) _ (HP20.out.at_ (.head _))) (rfl)).mono ?_
        rintro e W21 ⟨bofp, cofp, rfl, HP21, HB21⟩
        have HLq_21 := hid_of (HLq_20.out.below HB21.out)
        clear HLq_20
        clear HP20 HB21
        clear hHeld
        refine hK.out _ _ ⟨(HP21.out.fx.cell rfl), (HP21.out.fx.cell rfl), (HP21.out.mo.cell rfl)⟩ (fun hHeld => ?_)
        clear hK K
        try simp only [zz]
        refine wpAnyH_ready (rs := [20]) (by kernel_rfl) (by simp) ?_
        refine rdy rfl (fun K hK => ?_) AllReadyH.nil
        simp only [z1, z2, z3]
        go_simp
        refine (HP21.out.calls_rel (pfL g Ls) (rcChain_named (bs 0) (cs 0) s18 (Ls 0) [(bfe, cfe, feI g)] [feI g] (map3_cons (map3_nil)) _ (HP21.out.at_ (.tail _ (.tail _ (.tail _ (.tail _ (.tail _ (.tail _ (.tail _ (.tail _ (.tail _ (.tail _ (.tail _ (.tail _ (.head _)))))))))))))) HLq_21.out (by simp) (HT.out.step' HP21.out.low)) (pfL_eq ..)).mono ?_
        rintro e W22 ⟨bpf, cpf, rfl, HP22, HB22⟩
        clear HP21 HB22
        clear HLq_21
        clear hHeld
        refine hK.out _ _ ⟨(HP22.out.fx.cell rfl), (HP22.out.fx.cell rfl), (HP22.out.mo.cell rfl)⟩ (fun hHeld => ?_)
        clear hK K
        try simp only [zz]
        refine wpAnyH_ready (rs := [21]) (by kernel_rfl) (by simp) ?_
        refine rdy rfl (fun K hK => ?_) AllReadyH.nil
        simp only [z1, z2, z3]
        go_simp
        refine (HP22.out.calls_made (optL (pfL g Ls)) (Opt_calls (bpf) (cpf) (pfL g Ls) _ (HP22.out.at_ (.head _))) (rfl)).mono ?_
        rintro e W23 ⟨bopf, copf, rfl, HP23, HB23⟩
        clear HP22 HB23
        clear hHeld
        refine hK.out _ _ ⟨(HP23.out.fx.cell rfl), (HP23.out.fx.cell rfl), (HP23.out.mo.cell rfl)⟩ (fun hHeld => ?_)
        clear hK K
        try simp only [zz]
        refine wpAnyH_ready (rs := [23]) (by kernel_rfl) (by simp) ?_
        refine rdy rfl (fun K hK => ?_) AllReadyH.nil
        simp only [z1, z2, z3]
        refine op_build #[(0, pv bofp), (1, pv brs), (2, pv (bs 1)), (3, pv brd), (4, pv bopf), (5, pv bacq)] (by kernel_rfl) (bs6_run bofp brs (bs 1) brd bopf bacq _) ?_
        have HP24 := hid_of (HP23.out.alloc (.cells #[pv bofp, pv brs, pv (bs 1), pv brd, pv bopf, pv bacq] 43))
        have HLt_24 : Hid (RelsAt (W23.alloc (.cells #[pv bofp, pv brs, pv (bs 1), pv brd, pv bopf, pv bacq] 43)) W23.heap.size [(bofp, cofp, optL (fpL g Ls)), (brs, crs, rsL g Ls), (bs 1, cs 1, Ls 1), (brd, crd, rdI g), (bopf, copf, optL (pfL g Ls)), (bacq, cacq, acqL g)]) := rels_at [(bofp, cofp, optL (fpL g Ls)), (brs, crs, rsL g Ls), (bs 1, cs 1, Ls 1), (brd, crd, rdI g), (bopf, copf, optL (pfL g Ls)), (bacq, cacq, acqL g)] ((Rels.cons (Rels.cons (Rels.cons (Rels.cons (Rels.cons (Rels.cons (Rels.nil _) (HP23.out.at_ (b := bacq) (c := cacq) (L := acqL g) (.tail _ (.tail _ (.tail _ (.tail _ (.tail _ (.head _)))))))) (HP23.out.at_ (b := bopf) (c := copf) (L := optL (pfL g Ls)) (.head _))) (HP23.out.at_ (b := brd) (c := crd) (L := rdI g) (.tail _ (.tail _ (.tail _ (.tail _ (.tail _ (.tail _ (.tail _ (.tail _ (.tail _ (.tail _ (.tail _ (.tail _ (.head _))))))))))))))) (HP23.out.at_ (b := bs 1) (c := cs 1) (L := Ls 1) (.tail _ (.tail _ (.tail _ (.tail _ (.tail _ (.tail _ (.tail _ (.tail _ (.tail _ (.tail _ (.tail _ (.tail _ (.tail _ (.tail _ (.tail _ (.head _)))))))))))))))))) (HP23.out.at_ (b := brs) (c := crs) (L := rsL g Ls) (.tail _ (.tail _ (.tail _ (.tail _ (.head _))))))) (HP23.out.at_ (b := bofp) (c := cofp) (L := optL (fpL g Ls)) (.tail _ (.tail _ (.head _))))))
        clear HP23
        generalize W23.alloc (.cells #[pv bofp, pv brs, pv (bs 1), pv brd, pv bopf, pv bacq] 43) = W24 at *
        generalize W23.heap.size = s24 at *
        clear hHeld
        refine hK.out _ _ ⟨(HP24.out.fx.cell rfl), (HP24.out.fx.cell rfl), (HP24.out.mo.cell rfl)⟩ (fun hHeld => ?_)
        clear hK K
        try simp only [zz]
        refine wpAnyH_ready (rs := [24]) (by kernel_rfl) (by simp) ?_
        refine rdy rfl (fun K hK => ?_) AllReadyH.nil
        simp only [z1, z2, z3]
        go_simp
        refine (HP24.out.calls_rel (swL g Ls) (rcChain_named (brel) (crel) s24 (relL g) [(bofp, cofp, optL (fpL g Ls)), (brs, crs, rsL g Ls), (bs 1, cs 1, Ls 1), (brd, crd, rdI g), (bopf, copf, optL (pfL g Ls)), (bacq, cacq, acqL g)] [optL (fpL g Ls), rsL g Ls, Ls 1, rdI g, optL (pfL g Ls), acqL g] (map3_cons (map3_cons (map3_cons (map3_cons (map3_cons (map3_cons (map3_nil))))))) _ (HP24.out.at_ (.tail _ (.tail _ (.tail _ (.tail _ (.tail _ (.tail _ (.tail _ (.tail _ (.head _)))))))))) HLt_24.out (by simp) (HT.out.step' HP24.out.low)) (swL_eq ..)).mono ?_
        rintro e W25 ⟨bsw, csw, rfl, HP25, HB25⟩
        clear HP24 HB25
        clear HLt_24
        clear hHeld
        refine hK.out _ _ ⟨(HP25.out.fx.cell rfl), (HP25.out.fx.cell rfl), (HP25.out.mo.cell rfl)⟩ (fun hHeld => ?_)
        clear hK K
        try simp only [zz]
        refine tk 25 rfl ?_; simp only [zz]
        refine tk 26 rfl ?_; simp only [zz]
        refine tk 27 rfl ?_; simp only [zz]
        refine wpAnyH_ready (rs := [28]) (by kernel_rfl) (by simp) ?_
        refine rdy rfl (fun K hK => ?_) AllReadyH.nil
        have HP26 := hid_of (HP25.out.put hm0 1 (by omega) (pv bsw))
        have cs0 := HP25.out.mo.cell (j := 22) (v := (updR (r) 0 (pv brs)) 1) rfl
        have fz0 := HP25.out.mo.frozen 22
        simp only [z1, z2, z3]
        go_simp
        clear cs0 fz0 HP25
        clear hHeld
        refine hK.out _ _ ⟨(HP26.out.fx.cell rfl), (HP26.out.fx.cell rfl), (HP26.out.mo.cell rfl)⟩ (fun hHeld => ?_)
        clear hK K
        try simp only [zz]
        refine wpAnyH_done (by kernel_rfl) ?_ _
        clear hHeld
        go_wp2_with fail
        go_meet
        case rel => exact ⟨bsw, csw, ⟨HP26.out.low, HP26.out.tch, HP26.out.mo, HP26.out.fx, HP26.out.rd, HP26.out.wt, HP26.out.fe, (Rels.cons (Rels.cons (Rels.cons (Rels.cons (Rels.cons (Rels.cons (Rels.cons (Rels.cons (Rels.cons (Rels.cons (Rels.cons (Rels.cons (Rels.cons (Rels.cons (Rels.cons (Rels.cons (Rels.cons (Rels.nil _) (HP26.out.at_ (b := bs 5) (c := cs 5) (L := Ls 5) (.tail _ (.tail _ (.tail _ (.tail _ (.tail _ (.tail _ (.tail _ (.tail _ (.tail _ (.tail _ (.tail _ (.tail _ (.tail _ (.tail _ (.tail _ (.tail _ (.tail _ (.tail _ (.tail _ (.tail _ (.head _))))))))))))))))))))))) (HP26.out.at_ (b := bs 4) (c := cs 4) (L := Ls 4) (.tail _ (.tail _ (.tail _ (.tail _ (.tail _ (.tail _ (.tail _ (.tail _ (.tail _ (.tail _ (.tail _ (.tail _ (.tail _ (.tail _ (.tail _ (.tail _ (.tail _ (.tail _ (.tail _ (.head _)))))))))))))))))))))) (HP26.out.at_ (b := bs 3) (c := cs 3) (L := Ls 3) (.tail _ (.tail _ (.tail _ (.tail _ (.tail _ (.tail _ (.tail _ (.tail _ (.tail _ (.tail _ (.tail _ (.tail _ (.tail _ (.tail _ (.tail _ (.tail _ (.tail _ (.tail _ (.head _))))))))))))))))))))) (HP26.out.at_ (b := bs 2) (c := cs 2) (L := Ls 2) (.tail _ (.tail _ (.tail _ (.tail _ (.tail _ (.tail _ (.tail _ (.tail _ (.tail _ (.tail _ (.tail _ (.tail _ (.tail _ (.tail _ (.tail _ (.tail _ (.tail _ (.head _)))))))))))))))))))) (HP26.out.at_ (b := bs 1) (c := cs 1) (L := Ls 1) (.tail _ (.tail _ (.tail _ (.tail _ (.tail _ (.tail _ (.tail _ (.tail _ (.tail _ (.tail _ (.tail _ (.tail _ (.tail _ (.tail _ (.tail _ (.tail _ (.head _))))))))))))))))))) (HP26.out.at_ (b := bs 0) (c := cs 0) (L := Ls 0) (.tail _ (.tail _ (.tail _ (.tail _ (.tail _ (.tail _ (.tail _ (.tail _ (.tail _ (.tail _ (.tail _ (.tail _ (.tail _ (.tail _ (.tail _ (.head _)))))))))))))))))) (HP26.out.at_ (b := bwr) (c := cwr) (L := wrI g) (.tail _ (.tail _ (.tail _ (.tail _ (.tail _ (.tail _ (.tail _ (.tail _ (.tail _ (.tail _ (.tail _ (.tail _ (.tail _ (.tail _ (.head _))))))))))))))))) (HP26.out.at_ (b := brd) (c := crd) (L := rdI g) (.tail _ (.tail _ (.tail _ (.tail _ (.tail _ (.tail _ (.tail _ (.tail _ (.tail _ (.tail _ (.tail _ (.tail _ (.tail _ (.head _)))))))))))))))) (HP26.out.at_ (b := bfe) (c := cfe) (L := feI g) (.tail _ (.tail _ (.tail _ (.tail _ (.tail _ (.tail _ (.tail _ (.tail _ (.tail _ (.tail _ (.tail _ (.tail _ (.head _))))))))))))))) (HP26.out.at_ (b := bmr) (c := cmr) (L := mrI g) (.tail _ (.tail _ (.tail _ (.tail _ (.tail _ (.tail _ (.tail _ (.tail _ (.tail _ (.tail _ (.tail _ (.head _)))))))))))))) (HP26.out.at_ (b := bur) (c := cur) (L := urL g) (.tail _ (.tail _ (.tail _ (.tail _ (.tail _ (.tail _ (.tail _ (.tail _ (.tail _ (.tail _ (.head _))))))))))))) (HP26.out.at_ (b := brel) (c := crel) (L := relL g) (.tail _ (.tail _ (.tail _ (.tail _ (.tail _ (.tail _ (.tail _ (.tail _ (.tail _ (.head _)))))))))))) (HP26.out.at_ (b := bma) (c := cma) (L := maI g) (.tail _ (.tail _ (.tail _ (.tail _ (.tail _ (.tail _ (.tail _ (.tail _ (.head _))))))))))) (HP26.out.at_ (b := bua) (c := cua) (L := uaL g) (.tail _ (.tail _ (.tail _ (.tail _ (.tail _ (.tail _ (.tail _ (.head _)))))))))) (HP26.out.at_ (b := bacq) (c := cacq) (L := acqL g) (.tail _ (.tail _ (.tail _ (.tail _ (.tail _ (.tail _ (.head _))))))))) (HP26.out.at_ (b := brs) (c := crs) (L := rsL g Ls) (.tail _ (.tail _ (.tail _ (.tail _ (.tail _ (.head _)))))))) (HP26.out.at_ (b := bsw) (c := csw) (L := swL g Ls) (.head _)))⟩⟩
  case rest =>
  obtain ⟨bsw, csw, HPxsw⟩ := hcut
  generalize hwq : wc = wxsw at *
  clear hwq HPxrs
  go_upto_region 6 with fail
  go_cut [91] (fun vx wx => ∃ bhb chb, Hid (Hp w0 w m w.heap.size ⟨.slice p1 g.evs.length k1, Vr, Vc, Vm, Va, Vd, Vt⟩ g bs br bw bf (updR (updR (updR (r) 0 (pv brs)) 1 (pv bsw)) 2 (pv bhb)) [(bhb, chb, hbL g Ls), (bsw, csw, swL g Ls), (brs, crs, rsL g Ls), (bacq, cacq, acqL g), (bua, cua, uaL g), (bma, cma, maI g), (brel, crel, relL g), (bur, cur, urL g), (bmr, cmr, mrI g), (bfe, cfe, feI g), (brd, crd, rdI g), (bwr, cwr, wrI g), (bs 0, cs 0, Ls 0), (bs 1, cs 1, Ls 1), (bs 2, cs 2, Ls 2), (bs 3, cs 3, Ls 3), (bs 4, cs 4, Ls 4), (bs 5, cs 5, Ls 5)] wx))
  case first => as_aux_lemma =>
    have HP17 := hid_of HPxsw.out.drew
    clear HPxsw
    refine wp_region_held_drew (S := fun W => W.cell? ⟨w.heap.size, 0, none⟩ = some (pv (bs 0)) ∧ W.cell? ⟨m, 22, none⟩ = some (pv bsw)) (by kernel_rfl) ⟨(HP17.out.fx.cell rfl), (HP17.out.mo.cell rfl)⟩ (fun hHeld => ?_)
    generalize wxsw.drew = W17 at *
    refine tk 0 rfl ?_; simp only [zz]
    refine tk 1 rfl ?_; simp only [zz]
    refine tk 2 rfl ?_; simp only [zz]
    refine tk 3 rfl ?_; simp only [zz]
    refine tk 4 rfl ?_; simp only [zz]
    refine tk 5 rfl ?_; simp only [zz]
    refine tk 6 rfl ?_; simp only [zz]
    refine tk 7 rfl ?_; simp only [zz]
    refine wpAnyH_ready (rs := [8]) (by kernel_rfl) (by simp) ?_
    refine rdy rfl (fun K hK => ?_) AllReadyH.nil
    simp only [z1, z2, z3]
    refine op_build #[(0, pv (bs 0)), (1, pv bsw)] (by kernel_rfl) (bs2_run (bs 0) bsw _) ?_
    have HP18 := hid_of (HP17.out.alloc (.cells #[pv (bs 0), pv bsw] 43))
    have HLp_18 : Hid (RelsAt (W17.alloc (.cells #[pv (bs 0), pv bsw] 43)) W17.heap.size [(bs 0, cs 0, Ls 0), (bsw, csw, swL g Ls)]) := rels_at [(bs 0, cs 0, Ls 0), (bsw, csw, swL g Ls)] ((Rels.cons (Rels.cons (Rels.nil _) (HP17.out.at_ (b := bsw) (c := csw) (L := swL g Ls) (.head _))) (HP17.out.at_ (b := bs 0) (c := cs 0) (L := Ls 0) (.tail _ (.tail _ (.tail _ (.tail _ (.tail _ (.tail _ (.tail _ (.tail _ (.tail _ (.tail _ (.tail _ (.head _)))))))))))))))
    clear HP17
    generalize W17.alloc (.cells #[pv (bs 0), pv bsw] 43) = W18 at *
    generalize W17.heap.size = s18 at *
    clear hHeld
    refine hK.out _ _ ⟨(HP18.out.fx.cell rfl), (HP18.out.mo.cell rfl)⟩ (fun hHeld => ?_)
    clear hK K
    try simp only [zz]
    refine wpAnyH_ready (rs := [9]) (by kernel_rfl) (by simp) ?_
    refine rdy rfl (fun K hK => ?_) AllReadyH.nil
    simp only [z1, z2, z3]
    go_simp
    refine (HP18.out.calls_made (uhL g Ls) (Union_named s18 [(bs 0, cs 0, Ls 0), (bsw, csw, swL g Ls)] [Ls 0, swL g Ls] (map3_cons (map3_cons (map3_nil))) _ HLp_18.out (by simp)) (uhL_eq ..)).mono ?_
    rintro e W19 ⟨buh, cuh, rfl, HP19, HB19⟩
    clear HP18 HB19
    clear HLp_18
    clear hHeld
    refine hK.out _ _ ⟨(HP19.out.fx.cell rfl), (HP19.out.mo.cell rfl)⟩ (fun hHeld => ?_)
    clear hK K
    try simp only [zz]
    refine wpAnyH_ready (rs := [10]) (by kernel_rfl) (by simp) ?_
    refine rdy rfl (fun K hK => ?_) AllReadyH.nil
    simp only [z1, z2, z3]
    go_simp
    refine (HP19.out.calls_made (hbL g Ls) (Plus_calls (buh) (cuh) (uhL g Ls) _ (HP19.out.at_ (.head _))) (rfl)).mono ?_
    rintro e W20 ⟨bhb, chb, rfl, HP20, HB20⟩
    clear HP19 HB20
    clear hHeld
    refine hK.out _ _ ⟨(HP20.out.fx.cell rfl), (HP20.out.mo.cell rfl)⟩ (fun hHeld => ?_)
    clear hK K
    try simp only [zz]
    refine tk 11 rfl ?_; simp only [zz]
    refine tk 12 rfl ?_; simp only [zz]
    refine tk 13 rfl ?_; simp only [zz]
    refine wpAnyH_ready (rs := [14]) (by kernel_rfl) (by simp) ?_
    refine rdy rfl (fun K hK => ?_) AllReadyH.nil
    have HP21 := hid_of (HP20.out.put hm0 2 (by omega) (pv bhb))
    have cs0 := HP20.out.mo.cell (j := 23) (v := (updR (updR (r) 0 (pv brs)) 1 (pv bsw)) 2) rfl
    have fz0 := HP20.out.mo.frozen 23
    simp only [z1, z2, z3]
    go_simp
    clear cs0 fz0 HP20
    clear hHeld
    refine hK.out _ _ ⟨(HP21.out.fx.cell rfl), (HP21.out.mo.cell rfl)⟩ (fun hHeld => ?_)
    clear hK K
    try simp only [zz]
    refine wpAnyH_done (by kernel_rfl) ?_ _
    clear hHeld
    go_wp2_with fail
    go_meet
    case rel => exact ⟨bhb, chb, ⟨HP21.out.low, HP21.out.tch, HP21.out.mo, HP21.out.fx, HP21.out.rd, HP21.out.wt, HP21.out.fe, (Rels.cons (Rels.cons (Rels.cons (Rels.cons (Rels.cons (Rels.cons (Rels.cons (Rels.cons (Rels.cons (Rels.cons (Rels.cons (Rels.cons (Rels.cons (Rels.cons (Rels.cons (Rels.cons (Rels.cons (Rels.cons (Rels.nil _) (HP21.out.at_ (b := bs 5) (c := cs 5) (L := Ls 5) (.tail _ (.tail _ (.tail _ (.tail _ (.tail _ (.tail _ (.tail _ (.tail _ (.tail _ (.tail _ (.tail _ (.tail _ (.tail _ (.tail _ (.tail _ (.tail _ (.tail _ (.tail _ (.head _))))))))))))))))))))) (HP21.out.at_ (b := bs 4) (c := cs 4) (L := Ls 4) (.tail _ (.tail _ (.tail _ (.tail _ (.tail _ (.tail _ (.tail _ (.tail _ (.tail _ (.tail _ (.tail _ (.tail _ (.tail _ (.tail _ (.tail _ (.tail _ (.tail _ (.head _)))))))))))))))))))) (HP21.out.at_ (b := bs 3) (c := cs 3) (L := Ls 3) (.tail _ (.tail _ (.tail _ (.tail _ (.tail _ (.tail _ (.tail _ (.tail _ (.tail _ (.tail _ (.tail _ (.tail _ (.tail _ (.tail _ (.tail _ (.tail _ (.head _))))))))))))))))))) (HP21.out.at_ (b := bs 2) (c := cs 2) (L := Ls 2) (.tail _ (.tail _ (.tail _ (.tail _ (.tail _ (.tail _ (.tail _ (.tail _ (.tail _ (.tail _ (.tail _ (.tail _ (.tail _ (.tail _ (.tail _ (.head _)))))))))))))))))) (HP21.out.at_ (b := bs 1) (c := cs 1) (L := Ls 1) (.tail _ (.tail _ (.tail _ (.tail _ (.tail _ (.tail _ (.tail _ (.tail _ (.tail _ (.tail _ (.tail _ (.tail _ (.tail _ (.tail _ (.head _))))))))))))))))) (HP21.out.at_ (b := bs 0) (c := cs 0) (L := Ls 0) (.tail _ (.tail _ (.tail _ (.tail _ (.tail _ (.tail _ (.tail _ (.tail _ (.tail _ (.tail _ (.tail _ (.tail _ (.tail _ (.head _)))))))))))))))) (HP21.out.at_ (b := bwr) (c := cwr) (L := wrI g) (.tail _ (.tail _ (.tail _ (.tail _ (.tail _ (.tail _ (.tail _ (.tail _ (.tail _ (.tail _ (.tail _ (.tail _ (.head _))))))))))))))) (HP21.out.at_ (b := brd) (c := crd) (L := rdI g) (.tail _ (.tail _ (.tail _ (.tail _ (.tail _ (.tail _ (.tail _ (.tail _ (.tail _ (.tail _ (.tail _ (.head _)))))))))))))) (HP21.out.at_ (b := bfe) (c := cfe) (L := feI g) (.tail _ (.tail _ (.tail _ (.tail _ (.tail _ (.tail _ (.tail _ (.tail _ (.tail _ (.tail _ (.head _))))))))))))) (HP21.out.at_ (b := bmr) (c := cmr) (L := mrI g) (.tail _ (.tail _ (.tail _ (.tail _ (.tail _ (.tail _ (.tail _ (.tail _ (.tail _ (.head _)))))))))))) (HP21.out.at_ (b := bur) (c := cur) (L := urL g) (.tail _ (.tail _ (.tail _ (.tail _ (.tail _ (.tail _ (.tail _ (.tail _ (.head _))))))))))) (HP21.out.at_ (b := brel) (c := crel) (L := relL g) (.tail _ (.tail _ (.tail _ (.tail _ (.tail _ (.tail _ (.tail _ (.head _)))))))))) (HP21.out.at_ (b := bma) (c := cma) (L := maI g) (.tail _ (.tail _ (.tail _ (.tail _ (.tail _ (.tail _ (.head _))))))))) (HP21.out.at_ (b := bua) (c := cua) (L := uaL g) (.tail _ (.tail _ (.tail _ (.tail _ (.tail _ (.head _)))))))) (HP21.out.at_ (b := bacq) (c := cacq) (L := acqL g) (.tail _ (.tail _ (.tail _ (.tail _ (.head _))))))) (HP21.out.at_ (b := brs) (c := crs) (L := rsL g Ls) (.tail _ (.tail _ (.tail _ (.head _)))))) (HP21.out.at_ (b := bsw) (c := csw) (L := swL g Ls) (.tail _ (.tail _ (.head _))))) (HP21.out.at_ (b := bhb) (c := chb) (L := hbL g Ls) (.head _)))⟩⟩
  case rest =>
  obtain ⟨bhb, chb, HPxhb⟩ := hcut
  generalize hwq : wc = wxhb at *
  clear hwq HPxsw
  have y1 : wxhb.cell? ⟨w.heap.size, 1, none⟩ = some (pv (bs 1)) := HPxhb.out.fx.cell rfl
  have y2 : wxhb.cell? ⟨w.heap.size, 2, none⟩ = some (pv (bs 2)) := HPxhb.out.fx.cell rfl
  have y3 : wxhb.cell? ⟨w.heap.size, 3, none⟩ = some (pv (bs 3)) := HPxhb.out.fx.cell rfl
  go_wp2_with fail
  clear y1 y2 y3
  have HP17 := hid_of (HPxhb.out.alloc (.cells #[pv (bs 1), pv (bs 2), pv (bs 3)] 43))
  have HLp_17 : Hid (RelsAt (wxhb.alloc (.cells #[pv (bs 1), pv (bs 2), pv (bs 3)] 43)) wxhb.heap.size [(bs 1, cs 1, Ls 1), (bs 2, cs 2, Ls 2), (bs 3, cs 3, Ls 3)]) := rels_at [(bs 1, cs 1, Ls 1), (bs 2, cs 2, Ls 2), (bs 3, cs 3, Ls 3)] ((Rels.cons (Rels.cons (Rels.cons (Rels.nil _) (HPxhb.out.at_ (b := bs 3) (c := cs 3) (L := Ls 3) (.tail _ (.tail _ (.tail _ (.tail _ (.tail _ (.tail _ (.tail _ (.tail _ (.tail _ (.tail _ (.tail _ (.tail _ (.tail _ (.tail _ (.tail _ (.head _)))))))))))))))))) (HPxhb.out.at_ (b := bs 2) (c := cs 2) (L := Ls 2) (.tail _ (.tail _ (.tail _ (.tail _ (.tail _ (.tail _ (.tail _ (.tail _ (.tail _ (.tail _ (.tail _ (.tail _ (.tail _ (.tail _ (.head _))))))))))))))))) (HPxhb.out.at_ (b := bs 1) (c := cs 1) (L := Ls 1) (.tail _ (.tail _ (.tail _ (.tail _ (.tail _ (.tail _ (.tail _ (.tail _ (.tail _ (.tail _ (.tail _ (.tail _ (.tail _ (.head _)))))))))))))))))
  clear HPxhb
  generalize wxhb.alloc (.cells #[pv (bs 1), pv (bs 2), pv (bs 3)] 43) = W17 at *
  generalize wxhb.heap.size = s17 at *
  refine (HP17.out.calls_made (ueL Ls) (Union_named s17 [(bs 1, cs 1, Ls 1), (bs 2, cs 2, Ls 2), (bs 3, cs 3, Ls 3)] [Ls 1, Ls 2, Ls 3] (map3_cons (map3_cons (map3_cons (map3_nil)))) _ HLp_17.out (by simp)) (ueL_eq ..)).mono ?_
  rintro e W18 ⟨bue, cue, rfl, HP18, HB18⟩
  clear HP17 HB18
  clear HLp_17
  go_wp2_with fail
  refine (HP18.out.calls_made (ecoL Ls) (Plus_calls (bue) (cue) (ueL Ls) _ (HP18.out.at_ (.head _))) (rfl)).mono ?_
  rintro e W19 ⟨beco, ceco, rfl, HP19, HB19⟩
  clear HP18 HB19
  have HP20 := hid_of (HP19.out.put hm0 3 (by omega) (pv beco))
  have cs0 := HP19.out.mo.cell (j := 24) (v := (updR (updR (updR (r) 0 (pv brs)) 1 (pv bsw)) 2 (pv bhb)) 3) rfl
  have fz0 := HP19.out.mo.frozen 24
  go_wp2_with fail
  go_end0
  exact ⟨rfl, brs, crs, bsw, csw, bhb, chb, beco, ceco, (Rels.cons (Rels.cons (Rels.cons (Rels.cons (Rels.nil _) (HP20.out.at_ (b := brs) (c := crs) (L := rsL g Ls) (.tail _ (.tail _ (.tail _ (.tail _ (.head _))))))) (HP20.out.at_ (b := bsw) (c := csw) (L := swL g Ls) (.tail _ (.tail _ (.tail _ (.head _)))))) (HP20.out.at_ (b := bhb) (c := chb) (L := hbL g Ls) (.tail _ (.tail _ (.head _))))) (HP20.out.at_ (b := beco) (c := ceco) (L := ecoL Ls) (.head _))), HP20.out.mo, HP20.out.tch⟩
end Go.Proofs.YtjhhimjnoljojaaGreatDoor
namespace Go.Proofs.YtjhhimjnoljojaaGreatDoor
open Go.RowKit Go.Shelf Sx
def refD (g : Gr) (l : List (Int × Int)) (i : Nat) : Bool := okDa true l i && (isB g.evs (l.getD i (0, 0)).1 [1] && befB g.evs (l.getD i (0, 0)).1 (l.getD i (0, 0)).2)
def KndOk (g : Gr) : Prop := ∀ i, i < g.evs.length → (g.ev i).k = 1 ∨ (g.ev i).k = 2 ∨ (g.ev i).k = 3
theorem knd_ok {g : Gr} {q : Bool} (h2 : bad2 g q = -1) (h3 : bad3 g q = -1) : KndOk g := fun i hi => by
  by_cases hc : ((i : Nat) : Int) < g.cells
  · rw [ok2_ev h2 hc]
    simp [iniEv]
  · have := ok3_ev h3 (by omega) hi
    unfold okEv at this
    simp at this
    omega
theorem okD_same {g : Gr} (ht : ThrOk g) (l : List (Int × Int)) (ks : List Int) (i : Nat) : (okDa true l i && okDb g.evs (l.getD i (0, 0)) ks) = (refD g l i && ks.contains (g.ev (l.getD i (0, 0)).2.toNat).k) := by
  unfold refD okDb
  generalize l.getD i (0, 0) = p
  obtain ⟨pa, pb⟩ := p
  dsimp only
  cases h1 : isB g.evs pa [1]
  · simp
  · obtain ⟨a, rfl, ha⟩ := isB_nat h1
    have hk : (g.ev a).k = 1 := by
      unfold isB at h1
      simp at h1
      exact h1.2
    by_cases hb : 0 ≤ pb ∧ pb < g.evs.length
    · obtain ⟨b, rfl⟩ : ∃ b : Nat, pb = (b : Int) := ⟨pb.toNat, by omega⟩
      rw [bef_po ht ha (by omega) hk, Int.toNat_natCast, Int.toNat_natCast]
      have : isB g.evs ((b : Nat) : Int) ks = ks.contains (g.ev b).k := by
        unfold isB
        rw [decide_eq_true hb.1, decide_eq_true hb.2, Int.toNat_natCast]
        rfl
      rw [this]
      cases okDa true l i <;> cases poB g.evs a b <;> cases ks.contains (g.ev b).k <;> rfl
    · have hi : isB g.evs pb ks = false := by
        cases e : isB g.evs pb ks
        · rfl
        · obtain ⟨b, rfl, hb'⟩ := isB_nat e
          exact absurd ⟨by omega, by omega⟩ hb
      have hbf : befB g.evs ((a : Nat) : Int) pb = false := by
        cases e : befB g.evs ((a : Nat) : Int) pb
        · rfl
        · obtain ⟨n, m, _, rfl, _, hm⟩ := befB_nat e
          exact absurd ⟨by omega, by omega⟩ hb
      rw [hi, hbf]
      simp
theorem cmpP_lt {qa qb pa pb : Int} : decide (cmpP (qa, qb) (pa, pb) < 0) = (decide (qa < pa) || (decide (qa = pa) && decide (qb < pb))) := by
  unfold cmpP orI cmpI
  dsimp only
  by_cases h1 : qa < pa
  · simp [h1]
  · by_cases h2 : pa < qa
    · have : ¬ qa = pa := by omega
      simp [h1, h2, this]
    · have : qa = pa := by omega
      subst this
      by_cases h3 : qb < pb
      · simp [h3]
      · by_cases h4 : pb < qb
        · simp [h3, h4]
        · simp [h3, h4]
def WhKs (wh : Int) (ks : List Int) : Prop := (wh = 7 ∧ ks = [1, 2]) ∨ (wh = 8 ∧ ks = [2]) ∨ (wh = 9 ∧ ks = [1, 2, 3])
set_option linter.unusedSimpArgs false in
set_option maxRecDepth 100000 in
set_option maxHeartbeats 16000000 in
theorem r8deps_calls (V : GrV) (g : Gr) (v : Value) (l : List (Int × Int)) (wh : Int) (ks : List Int) (w : World) (h : GrR w V g) (hv : PArg w v l) (hl256 : g.evs.length ≤ 256) (ht : ThrOk g) (hkd : KndOk g) (hwk : WhKs wh ks) :
    Calls Tryz.prog 44 #[V.val g, v, .int .i64 wh] w fun r w' => r = .returned (.int .i64 (badD g.evs true l ks)) ∧ Below w.heap.size w w' := by
  obtain ⟨Ve, Vr, Vc, Vm, Va, Vd, Vt⟩ := V
  obtain ⟨pe, ce, ee, hp, _⟩ := h.ev
  obtain ⟨pr, cr, er, hpr, hrl⟩ := parg_form hv
  dsimp only at ee er
  subst ee
  subst er
  have HP := hid_of hp
  have HPR := hid_of hpr
  have H := hid_of h
  have HKD := hid_of hkd
  have HWK := hid_of hwk
  generalize hr : badD g.evs true l ks = res
  have HR : Hid (fstBad (fun i => !(refD g l i && ks.contains (g.ev (l.getD i (0, 0)).2.toNat).k)) 0 l.length = res) := by
    rw [Hid, ← hr]
    unfold badD
    congr 1
    funext i
    rw [okD_same ht]
  have hB : Below w.heap.size w (w.alloc (.cells #[.int .i64 g.cells, .slice pe g.evs.length ce, Vr, Vc, Vm, Va, Vd, Vt] 27)) := (Below.refl _ _).alloc (Nat.le_refl _) _
  have hb := Blk.new w 27 #[.int .i64 g.cells, .slice pe g.evs.length ce, Vr, Vc, Vm, Va, Vd, Vt]
  unfold GrV.val
  dsimp only
  clear hr hp h hpr ht hv hkd hwk
  go_enter Tryz.func44, Tryz.ntmps44
  go_wp2_with fail
  have HB := hid_of hB
  have HG := hid_of hb
  generalize w.alloc (.cells #[.int .i64 g.cells, .slice pe g.evs.length ce, Vr, Vc, Vm, Va, Vd, Vt] 27) = W0 at *
  clear hb hB
  go_loopg [7] l.length (fun f v3 wr => ∃ kk : Nat, v3 = .int .i64 ((kk : Nat) : Int) ∧ kk ≤ l.length ∧ Hid (kk + f = l.length) ∧ Hid (∀ j, 0 ≤ j → j < kk → (!(refD g l j && ks.contains (g.ev (l.getD j (0, 0)).2.toNat).k)) = false) ∧ Hid (Below W0.heap.size W0 wr))
  case atStart => exact ⟨0, rfl, Nat.zero_le _, Nat.zero_add _, (fun j _ h => by omega), Below.refl _ _⟩
  case round =>
    obtain ⟨kk, rfl, hk0, HKF, HALL, HW⟩ := hrel
    have HBW : Hid (Below w.heap.size w wr) := below_step HB.out HB.out.size HW.out
    by_cases hkl : kk < l.length
    · obtain ⟨s2, o2, rfl, hat2⟩ := HPR.out (by omega)
      obtain ⟨⟨pa, pb⟩, hx⟩ : ∃ x, l[kk]? = some x := ⟨_, List.getElem?_eq_getElem hkl⟩
      have y0 := (hat2.below HBW.out).fst kk _ hx
      have y1 := (hat2.below HBW.out).snd kk _ hx
      dsimp only at y0 y1
      have K0 : (0 : Int) ≤ ((kk : Nat) : Int) := by omega
      have K1 : ((kk : Nat) : Int) < ((l.length : Nat) : Int) := by omega
      have hgd : l.getD kk (0, 0) = (pa, pb) := by rw [List.getD_eq_getElem?_getD, hx]; rfl
      have HGD := hid_of hgd
      have HBAD : Hid ((refD g l kk && ks.contains (g.ev pb.toNat).k) = false → res = ((kk : Nat) : Int)) := fun h => by
        rw [← HR.out]
        exact fstBad_hit (Nat.zero_le kk) (by omega) HALL.out (by rw [hgd, h]; rfl)
      have HNX : Hid ((refD g l kk && ks.contains (g.ev pb.toNat).k) = true → ∀ j, 0 ≤ j → j < kk + 1 → (!(refD g l j && ks.contains (g.ev (l.getD j (0, 0)).2.toNat).k)) = false) := fun h j h0 hj => by
        by_cases e : j = kk
        · rw [e, hgd, h]; rfl
        · exact HALL.out j h0 (by omega)
      have HO5 : Hid (refD g l kk = (okDa true l kk && (isB g.evs pa [1] && befB g.evs pa pb))) := by
        rw [Hid]
        unfold refD
        rw [hgd]
      have HAT2 := hid_of hat2
      clear hx hgd hat2
      go_upto_region 5 with fail
      have hgp := Blk.new wr 34 #[.int .i64 pa, .int .i64 pb]
      have hBp : Below wr.heap.size wr (wr.alloc (.cells #[.int .i64 pa, .int .i64 pb] 34)) := (Below.refl _ _).alloc (Nat.le_refl _) _
      have HGb := hid_of ((HG.out.of_below HW.out).alloc (.cells #[.int .i64 pa, .int .i64 pb] 34))
      have HBb : Hid (Below w.heap.size w (wr.alloc (.cells #[.int .i64 pa, .int .i64 pb] 34))) := below_step HBW.out HBW.out.size hBp
      have HWb : Hid (Below W0.heap.size W0 (wr.alloc (.cells #[.int .i64 pa, .int .i64 pb] 34))) := below_step HW.out HW.out.size hBp
      have HGP := hid_of hgp
      clear hgp hBp y0 y1
      generalize wr.alloc (.cells #[.int .i64 pa, .int .i64 pb] 34) = wb at *
      generalize wr.heap.size = gp at *
      have HA2b := hid_of (HAT2.out.below HBb.out)
      have hcA := r8is_calls _ g pa 1 wb.drew (H.out.below HBb.out.drew)
      have hcN := fun W (hW : Below wb.heap.size wb W) => r8before_calls _ g pa pb W (H.out.below (below_step HBb.out HBb.out.size hW))
      unfold GrV.val at hcA hcN
      dsimp only at hcA hcN
      have HCA0 := hid_of hcA
      have HCN0 := hid_of hcN
      clear hcA hcN
      generalize hgbn : w.heap.size = gb at *
      have HZ : Hid (∀ W, Below wb.heap.size wb W → W.cell? ⟨gb, 0, none⟩ = some (.int .i64 g.cells) ∧ W.cell? ⟨gb, 1, none⟩ = some (.slice pe g.evs.length ce) ∧ W.cell? ⟨gb, 2, none⟩ = some (Vr) ∧ W.cell? ⟨gb, 3, none⟩ = some (Vc) ∧ W.cell? ⟨gb, 4, none⟩ = some (Vm) ∧ W.cell? ⟨gb, 5, none⟩ = some (Va) ∧ W.cell? ⟨gb, 6, none⟩ = some (Vd) ∧ W.cell? ⟨gb, 7, none⟩ = some (Vt) ∧ W.cell? ⟨gp, 0, none⟩ = some (.int .i64 pa) ∧ W.cell? ⟨gp, 1, none⟩ = some (.int .i64 pb)) := fun W hW => ⟨(HGb.out.of_below hW).cell rfl, (HGb.out.of_below hW).cell rfl, (HGb.out.of_below hW).cell rfl, (HGb.out.of_below hW).cell rfl, (HGb.out.of_below hW).cell rfl, (HGb.out.of_below hW).cell rfl, (HGb.out.of_below hW).cell rfl, (HGb.out.of_below hW).cell rfl, (HGP.out.of_below hW).cell rfl, (HGP.out.of_below hW).cell rfl⟩
      go_cut [70] (fun v70 wx => v70 = .bool (!(refD g l kk)) ∧ Hid (Below wb.heap.size wb wx))
      case rest =>
        obtain ⟨rfl, HX⟩ := hcut
        generalize hwz : wc = wz at *
        clear hwz
        have HXW : Hid (Below gb w wz) := HBb.out.trans (HX.out.mono (by rw [← hgbn]; exact HBb.out.size))
        cases hok : refD g l kk
        · obtain rfl := HBAD.out (by rw [hok]; rfl)
          clear hok
          go_wp2_with fail
          go_ret
          exact ⟨rfl, HXW.out⟩
        · rw [hok, Bool.true_and] at HBAD HNX
          have hbf : befB g.evs pa pb = true := by
            have := HO5.out
            rw [hok] at this
            cases e : befB g.evs pa pb
            · rw [e] at this; simp at this
            · rfl
          obtain ⟨n, m, rfl, rfl, _, hm⟩ := befB_nat hbf
          rw [Int.toNat_natCast] at HBAD HNX
          obtain ⟨s, o, rfl, hat⟩ := HP.out (by omega)
          have x1 := (hat.below (by rw [hgbn]; exact HXW.out)).c1 m _ (Gr.ev_at hm)
          have c1 : wz.cell? ⟨gb, 1, none⟩ = some (.slice (some ⟨s, o, none⟩) g.evs.length ce) := (HGb.out.of_below HX.out).cell rfl
          have p1 : wz.cell? ⟨gp, 1, none⟩ = some (.int .i64 ((m : Nat) : Int)) := (HGP.out.of_below HX.out).cell rfl
          have M0 : (0 : Int) ≤ ((m : Nat) : Int) := by omega
          have M1 : ((m : Nat) : Int) < ((g.evs.length : Nat) : Int) := by omega
          have hkk := HKD.out m hm
          clear hat hok hbf HO5
          generalize (g.ev m).k = km at *
          have HFIN : Hid (Below W0.heap.size W0 wz) := HWb.out.trans (HX.out.mono HWb.out.size)
          rcases HWK.out with ⟨rfl, rfl⟩ | ⟨rfl, rfl⟩ | ⟨rfl, rfl⟩ <;> rcases hkk with rfl | rfl | rfl
          · have HNX2 := hid_of (HNX.out (by decide))
            clear HNX HBAD
            go_wp2_with fail
            go_roundg (l.length - (kk + 1))
            case measure => have := HKF.out; omega
            case rel => exact ⟨kk + 1, by go_num, by omega, by have := HKF.out; rw [Hid]; omega, HNX2.out, HFIN.out⟩
          · have HNX2 := hid_of (HNX.out (by decide))
            clear HNX HBAD
            go_wp2_with fail
            go_roundg (l.length - (kk + 1))
            case measure => have := HKF.out; omega
            case rel => exact ⟨kk + 1, by go_num, by omega, by have := HKF.out; rw [Hid]; omega, HNX2.out, HFIN.out⟩
          · obtain rfl := HBAD.out (by decide)
            clear HNX
            go_wp2_with fail
            go_ret
            exact ⟨rfl, HXW.out⟩
          · obtain rfl := HBAD.out (by decide)
            clear HNX
            go_wp2_with fail
            go_ret
            exact ⟨rfl, HXW.out⟩
          · have HNX2 := hid_of (HNX.out (by decide))
            clear HNX HBAD
            go_wp2_with fail
            go_roundg (l.length - (kk + 1))
            case measure => have := HKF.out; omega
            case rel => exact ⟨kk + 1, by go_num, by omega, by have := HKF.out; rw [Hid]; omega, HNX2.out, HFIN.out⟩
          · obtain rfl := HBAD.out (by decide)
            clear HNX
            go_wp2_with fail
            go_ret
            exact ⟨rfl, HXW.out⟩
          · have HNX2 := hid_of (HNX.out (by decide))
            clear HNX HBAD
            go_wp2_with fail
            go_roundg (l.length - (kk + 1))
            case measure => have := HKF.out; omega
            case rel => exact ⟨kk + 1, by go_num, by omega, by have := HKF.out; rw [Hid]; omega, HNX2.out, HFIN.out⟩
          · have HNX2 := hid_of (HNX.out (by decide))
            clear HNX HBAD
            go_wp2_with fail
            go_roundg (l.length - (kk + 1))
            case measure => have := HKF.out; omega
            case rel => exact ⟨kk + 1, by go_num, by omega, by have := HKF.out; rw [Hid]; omega, HNX2.out, HFIN.out⟩
          · have HNX2 := hid_of (HNX.out (by decide))
            clear HNX HBAD
            go_wp2_with fail
            go_roundg (l.length - (kk + 1))
            case measure => have := HKF.out; omega
            case rel => exact ⟨kk + 1, by go_num, by omega, by have := HKF.out; rw [Hid]; omega, HNX2.out, HFIN.out⟩
      case first =>
      by_cases hkz : kk = 0
      · subst hkz
        have HO6 : Hid (refD g l 0 = (isB g.evs pa [1] && befB g.evs pa pb)) := by rw [Hid, HO5.out, okDa]; simp
        clear HO5
        cases hia : isB g.evs pa [1]
        · rw [hia] at HCA0
          have HCA := HCA0
          have HO : Hid (refD g l 0 = false) := by rw [Hid, HO6.out, hia]; simp
          clear HCA0 HCN0 hia
          refine wp_region_held_drew (S := (fun w' => w'.cell? ⟨gb, 0, none⟩ = some (.int .i64 g.cells) ∧ w'.cell? ⟨gb, 1, none⟩ = some (.slice pe g.evs.length ce) ∧ w'.cell? ⟨gb, 2, none⟩ = some (Vr) ∧ w'.cell? ⟨gb, 3, none⟩ = some (Vc) ∧ w'.cell? ⟨gb, 4, none⟩ = some (Vm) ∧ w'.cell? ⟨gb, 5, none⟩ = some (Va) ∧ w'.cell? ⟨gb, 6, none⟩ = some (Vd) ∧ w'.cell? ⟨gb, 7, none⟩ = some (Vt) ∧ w'.cell? ⟨gp, 0, none⟩ = some (.int .i64 pa) ∧ w'.cell? ⟨gp, 1, none⟩ = some (.int .i64 pb))) (by kernel_rfl) (HZ.out _ (Below.refl _ _).drew) (fun hHeld => ?_)
          refine tk 0 rfl ?_; simp only [zz]
          refine tk 1 rfl ?_; simp only [zz]
          refine tk 2 rfl ?_; simp only [zz]
          refine tu 3 rfl ?_; simp only [zz]
          refine tu 4 rfl ?_; simp only [zz]
          refine tu 5 rfl ?_; simp only [zz]
          refine tu 6 rfl ?_; simp only [zz]
          refine tu 7 rfl ?_; simp only [zz]
          refine tu 8 rfl ?_; simp only [zz]
          refine tu 9 rfl ?_; simp only [zz]
          refine tu 10 rfl ?_; simp only [zz]
          refine tu 11 rfl ?_; simp only [zz]
          refine tu 12 rfl ?_; simp only [zz]
          refine tu 13 rfl ?_; simp only [zz]
          refine tu 14 rfl ?_; simp only [zz]
          refine tu 15 rfl ?_; simp only [zz]
          refine tu 16 rfl ?_; simp only [zz]
          refine tu 17 rfl ?_; simp only [zz]
          refine tu 18 rfl ?_; simp only [zz]
          refine tu 19 rfl ?_; simp only [zz]
          refine tu 20 rfl ?_; simp only [zz]
          refine tu 21 rfl ?_; simp only [zz]
          refine tu 22 rfl ?_; simp only [zz]
          refine tu 23 rfl ?_; simp only [zz]
          refine tu 24 rfl ?_; simp only [zz]
          refine tu 25 rfl ?_; simp only [zz]
          refine tu 26 rfl ?_; simp only [zz]
          refine tu 27 rfl ?_; simp only [zz]
          refine tu 28 rfl ?_; simp only [zz]
          refine tu 29 rfl ?_; simp only [zz]
          refine tu 30 rfl ?_; simp only [zz]
          refine tu 31 rfl ?_; simp only [zz]
          refine tu 32 rfl ?_; simp only [zz]
          refine tu 33 rfl ?_; simp only [zz]
          refine tk 34 rfl ?_; simp only [zz]
          refine tk 35 rfl ?_; simp only [zz]
          refine tk 36 rfl ?_; simp only [zz]
          refine tk 37 rfl ?_; simp only [zz]
          refine tk 38 rfl ?_; simp only [zz]
          refine wpAnyH_ready (rs := [39]) (by kernel_rfl) (by simp) ?_
          refine AllReadyH.cons rfl (fun K hK => ?_) AllReadyH.nil
          simp only [z1, z2, z3]
          go_simp
          refine HCA.out.mono ?_
          rintro e w5 ⟨rfl, hB5⟩
          have hX5 : Below wb.heap.size wb w5 := ((Below.refl wb.heap.size wb).drew).trans hB5
          refine hK.out _ _ (HZ.out w5 hX5) (fun hHeld => ?_)
          clear hK K
          try simp only [zz]
          refine tk 40 rfl ?_; simp only [zz]
          refine tk 41 rfl ?_; simp only [zz]
          refine tk 42 rfl ?_; simp only [zz]
          refine tu 43 rfl ?_; simp only [zz]
          refine tu 44 rfl ?_; simp only [zz]
          refine tu 45 rfl ?_; simp only [zz]
          refine tu 46 rfl ?_; simp only [zz]
          refine tu 47 rfl ?_; simp only [zz]
          refine tu 48 rfl ?_; simp only [zz]
          refine tu 49 rfl ?_; simp only [zz]
          refine tk 50 rfl ?_; simp only [zz]
          refine wpAnyH_done (by kernel_rfl) ?_ _
          go_wp2_with fail
          go_meet
          exact ⟨by rw [HO.out]; rfl, hX5⟩
        · rw [hia] at HCA0
          have HCA := HCA0
          cases hnx : befB g.evs pa pb
          · rw [hnx] at HCN0
            have HCN := HCN0
            have HO : Hid (refD g l 0 = false) := by rw [Hid, HO6.out, hia, hnx]; rfl
            clear HCA0 HCN0 hia hnx
            refine wp_region_held_drew (S := (fun w' => w'.cell? ⟨gb, 0, none⟩ = some (.int .i64 g.cells) ∧ w'.cell? ⟨gb, 1, none⟩ = some (.slice pe g.evs.length ce) ∧ w'.cell? ⟨gb, 2, none⟩ = some (Vr) ∧ w'.cell? ⟨gb, 3, none⟩ = some (Vc) ∧ w'.cell? ⟨gb, 4, none⟩ = some (Vm) ∧ w'.cell? ⟨gb, 5, none⟩ = some (Va) ∧ w'.cell? ⟨gb, 6, none⟩ = some (Vd) ∧ w'.cell? ⟨gb, 7, none⟩ = some (Vt) ∧ w'.cell? ⟨gp, 0, none⟩ = some (.int .i64 pa) ∧ w'.cell? ⟨gp, 1, none⟩ = some (.int .i64 pb))) (by kernel_rfl) (HZ.out _ (Below.refl _ _).drew) (fun hHeld => ?_)
            refine tk 0 rfl ?_; simp only [zz]
            refine tk 1 rfl ?_; simp only [zz]
            refine tk 2 rfl ?_; simp only [zz]
            refine tu 3 rfl ?_; simp only [zz]
            refine tu 4 rfl ?_; simp only [zz]
            refine tu 5 rfl ?_; simp only [zz]
            refine tu 6 rfl ?_; simp only [zz]
            refine tu 7 rfl ?_; simp only [zz]
            refine tu 8 rfl ?_; simp only [zz]
            refine tu 9 rfl ?_; simp only [zz]
            refine tu 10 rfl ?_; simp only [zz]
            refine tu 11 rfl ?_; simp only [zz]
            refine tu 12 rfl ?_; simp only [zz]
            refine tu 13 rfl ?_; simp only [zz]
            refine tu 14 rfl ?_; simp only [zz]
            refine tu 15 rfl ?_; simp only [zz]
            refine tu 16 rfl ?_; simp only [zz]
            refine tu 17 rfl ?_; simp only [zz]
            refine tu 18 rfl ?_; simp only [zz]
            refine tu 19 rfl ?_; simp only [zz]
            refine tu 20 rfl ?_; simp only [zz]
            refine tu 21 rfl ?_; simp only [zz]
            refine tu 22 rfl ?_; simp only [zz]
            refine tu 23 rfl ?_; simp only [zz]
            refine tu 24 rfl ?_; simp only [zz]
            refine tu 25 rfl ?_; simp only [zz]
            refine tu 26 rfl ?_; simp only [zz]
            refine tu 27 rfl ?_; simp only [zz]
            refine tu 28 rfl ?_; simp only [zz]
            refine tu 29 rfl ?_; simp only [zz]
            refine tu 30 rfl ?_; simp only [zz]
            refine tu 31 rfl ?_; simp only [zz]
            refine tu 32 rfl ?_; simp only [zz]
            refine tu 33 rfl ?_; simp only [zz]
            refine tk 34 rfl ?_; simp only [zz]
            refine tk 35 rfl ?_; simp only [zz]
            refine tk 36 rfl ?_; simp only [zz]
            refine tk 37 rfl ?_; simp only [zz]
            refine tk 38 rfl ?_; simp only [zz]
            refine wpAnyH_ready (rs := [39]) (by kernel_rfl) (by simp) ?_
            refine AllReadyH.cons rfl (fun K hK => ?_) AllReadyH.nil
            simp only [z1, z2, z3]
            go_simp
            refine HCA.out.mono ?_
            rintro e w5 ⟨rfl, hB5⟩
            have hX5 : Below wb.heap.size wb w5 := ((Below.refl wb.heap.size wb).drew).trans hB5
            refine hK.out _ _ (HZ.out w5 hX5) (fun hHeld => ?_)
            clear hK K
            try simp only [zz]
            refine tk 40 rfl ?_; simp only [zz]
            refine tk 41 rfl ?_; simp only [zz]
            refine tk 42 rfl ?_; simp only [zz]
            refine tk 43 rfl ?_; simp only [zz]
            refine tk 44 rfl ?_; simp only [zz]
            refine tk 45 rfl ?_; simp only [zz]
            refine tk 46 rfl ?_; simp only [zz]
            refine tk 47 rfl ?_; simp only [zz]
            refine wpAnyH_ready (rs := [48]) (by kernel_rfl) (by simp) ?_
            refine AllReadyH.cons rfl (fun K hK => ?_) AllReadyH.nil
            simp only [z1, z2, z3]
            go_simp
            refine (HCN.out w5 hX5).mono ?_
            rintro e w6 ⟨rfl, hB6⟩
            have hX6 := below_step hX5 hX5.size hB6
            refine hK.out _ _ (HZ.out w6 hX6) (fun hHeld => ?_)
            clear hK K
            try simp only [zz]
            refine tk 49 rfl ?_; simp only [zz]
            refine tk 50 rfl ?_; simp only [zz]
            refine wpAnyH_done (by kernel_rfl) ?_ _
            go_wp2_with fail
            go_meet
            exact ⟨by rw [HO.out]; rfl, hX6⟩
          · rw [hnx] at HCN0
            have HCN := HCN0
            have HO : Hid (refD g l 0 = true) := by rw [Hid, HO6.out, hia, hnx]; rfl
            clear HCA0 HCN0 hia hnx
            refine wp_region_held_drew (S := (fun w' => w'.cell? ⟨gb, 0, none⟩ = some (.int .i64 g.cells) ∧ w'.cell? ⟨gb, 1, none⟩ = some (.slice pe g.evs.length ce) ∧ w'.cell? ⟨gb, 2, none⟩ = some (Vr) ∧ w'.cell? ⟨gb, 3, none⟩ = some (Vc) ∧ w'.cell? ⟨gb, 4, none⟩ = some (Vm) ∧ w'.cell? ⟨gb, 5, none⟩ = some (Va) ∧ w'.cell? ⟨gb, 6, none⟩ = some (Vd) ∧ w'.cell? ⟨gb, 7, none⟩ = some (Vt) ∧ w'.cell? ⟨gp, 0, none⟩ = some (.int .i64 pa) ∧ w'.cell? ⟨gp, 1, none⟩ = some (.int .i64 pb))) (by kernel_rfl) (HZ.out _ (Below.refl _ _).drew) (fun hHeld => ?_)
            refine tk 0 rfl ?_; simp only [zz]
            refine tk 1 rfl ?_; simp only [zz]
            refine tk 2 rfl ?_; simp only [zz]
            refine tu 3 rfl ?_; simp only [zz]
            refine tu 4 rfl ?_; simp only [zz]
            refine tu 5 rfl ?_; simp only [zz]
            refine tu 6 rfl ?_; simp only [zz]
            refine tu 7 rfl ?_; simp only [zz]
            refine tu 8 rfl ?_; simp only [zz]
            refine tu 9 rfl ?_; simp only [zz]
            refine tu 10 rfl ?_; simp only [zz]
            refine tu 11 rfl ?_; simp only [zz]
            refine tu 12 rfl ?_; simp only [zz]
            refine tu 13 rfl ?_; simp only [zz]
            refine tu 14 rfl ?_; simp only [zz]
            refine tu 15 rfl ?_; simp only [zz]
            refine tu 16 rfl ?_; simp only [zz]
            refine tu 17 rfl ?_; simp only [zz]
            refine tu 18 rfl ?_; simp only [zz]
            refine tu 19 rfl ?_; simp only [zz]
            refine tu 20 rfl ?_; simp only [zz]
            refine tu 21 rfl ?_; simp only [zz]
            refine tu 22 rfl ?_; simp only [zz]
            refine tu 23 rfl ?_; simp only [zz]
            refine tu 24 rfl ?_; simp only [zz]
            refine tu 25 rfl ?_; simp only [zz]
            refine tu 26 rfl ?_; simp only [zz]
            refine tu 27 rfl ?_; simp only [zz]
            refine tu 28 rfl ?_; simp only [zz]
            refine tu 29 rfl ?_; simp only [zz]
            refine tu 30 rfl ?_; simp only [zz]
            refine tu 31 rfl ?_; simp only [zz]
            refine tu 32 rfl ?_; simp only [zz]
            refine tu 33 rfl ?_; simp only [zz]
            refine tk 34 rfl ?_; simp only [zz]
            refine tk 35 rfl ?_; simp only [zz]
            refine tk 36 rfl ?_; simp only [zz]
            refine tk 37 rfl ?_; simp only [zz]
            refine tk 38 rfl ?_; simp only [zz]
            refine wpAnyH_ready (rs := [39]) (by kernel_rfl) (by simp) ?_
            refine AllReadyH.cons rfl (fun K hK => ?_) AllReadyH.nil
            simp only [z1, z2, z3]
            go_simp
            refine HCA.out.mono ?_
            rintro e w5 ⟨rfl, hB5⟩
            have hX5 : Below wb.heap.size wb w5 := ((Below.refl wb.heap.size wb).drew).trans hB5
            refine hK.out _ _ (HZ.out w5 hX5) (fun hHeld => ?_)
            clear hK K
            try simp only [zz]
            refine tk 40 rfl ?_; simp only [zz]
            refine tk 41 rfl ?_; simp only [zz]
            refine tk 42 rfl ?_; simp only [zz]
            refine tk 43 rfl ?_; simp only [zz]
            refine tk 44 rfl ?_; simp only [zz]
            refine tk 45 rfl ?_; simp only [zz]
            refine tk 46 rfl ?_; simp only [zz]
            refine tk 47 rfl ?_; simp only [zz]
            refine wpAnyH_ready (rs := [48]) (by kernel_rfl) (by simp) ?_
            refine AllReadyH.cons rfl (fun K hK => ?_) AllReadyH.nil
            simp only [z1, z2, z3]
            go_simp
            refine (HCN.out w5 hX5).mono ?_
            rintro e w6 ⟨rfl, hB6⟩
            have hX6 := below_step hX5 hX5.size hB6
            refine hK.out _ _ (HZ.out w6 hX6) (fun hHeld => ?_)
            clear hK K
            try simp only [zz]
            refine tk 49 rfl ?_; simp only [zz]
            refine tk 50 rfl ?_; simp only [zz]
            refine wpAnyH_done (by kernel_rfl) ?_ _
            go_wp2_with fail
            go_meet
            exact ⟨by rw [HO.out]; rfl, hX6⟩
      · obtain ⟨jj, HJJ⟩ : ∃ jj : Nat, Hid (kk = jj + 1) := ⟨kk - 1, by rw [Hid]; omega⟩
        have hj1 : ((kk : Nat) : Int) - 1 = ((jj : Nat) : Int) := by have := HJJ.out; omega
        have hjl : jj < l.length := by have := HJJ.out; omega
        obtain ⟨⟨qa, qb⟩, hx⟩ : ∃ x, l[jj]? = some x := ⟨_, List.getElem?_eq_getElem hjl⟩
        have zq := HA2b.out.fst jj _ hx
        have zr := HA2b.out.snd jj _ hx
        dsimp only at zq zr
        have hs2 := HA2b.out.lt
        have J0 : (0 : Int) ≤ ((jj : Nat) : Int) := by omega
        have J1 : ((jj : Nat) : Int) < ((l.length : Nat) : Int) := by omega
        have KP : 0 < kk := by omega
        have KP0 : (0 : Int) < ((kk : Nat) : Int) := by omega
        have jd : decide ((0 : Int) < ((kk : Nat) : Int)) = true := decide_eq_true (by omega)
        have jw : IntKind.i64.wrap ((jj : Nat) : Int) = ((jj : Nat) : Int) := wrap_small' (by have := HJJ.out; omega)
        have hra : okDa true l kk = (decide (qa < pa) || (decide (qa = pa) && decide (qb < pb))) := by
          unfold okDa
          rw [HGD.out, show kk - 1 = jj by have := HJJ.out; omega, List.getD_eq_getElem?_getD, hx]
          simp only [Option.getD_some, Bool.true_and, cmpP_lt]
          simp [hkz]
        have HZ1 : Hid (∀ W, Below wb.heap.size wb W → W.cell? ⟨gb, 0, none⟩ = some (.int .i64 g.cells) ∧ W.cell? ⟨gb, 1, none⟩ = some (.slice pe g.evs.length ce) ∧ W.cell? ⟨gb, 2, none⟩ = some (Vr) ∧ W.cell? ⟨gb, 3, none⟩ = some (Vc) ∧ W.cell? ⟨gb, 4, none⟩ = some (Vm) ∧ W.cell? ⟨gb, 5, none⟩ = some (Va) ∧ W.cell? ⟨gb, 6, none⟩ = some (Vd) ∧ W.cell? ⟨gb, 7, none⟩ = some (Vt) ∧ W.cell? ⟨gp, 0, none⟩ = some (.int .i64 pa) ∧ W.cell? ⟨gp, 1, none⟩ = some (.int .i64 pb) ∧ W.cell? ⟨s2, o2 + jj * 2, none⟩ = some (.int .i64 qa) ∧ W.cell? ⟨s2, o2 + jj * 2 + 1, none⟩ = some (.int .i64 qb)) := fun W hW => by
          obtain ⟨a0, a1, a2, a3, a4, a5, a6, a7, a8, a9⟩ := HZ.out W hW
          exact ⟨a0, a1, a2, a3, a4, a5, a6, a7, a8, a9, (hW.cell (p := ⟨s2, o2 + jj * 2, none⟩) hs2).trans zq, (hW.cell (p := ⟨s2, o2 + jj * 2 + 1, none⟩) hs2).trans zr⟩
        clear hx zq zr
        by_cases h1 : pa < qa
        · have d5 : decide (pa < qa) = true := decide_eq_true h1
          have HO : Hid (refD g l kk = false) := by rw [Hid, HO5.out, hra, decide_eq_false (show ¬ qa < pa by omega), decide_eq_false (show ¬ qa = pa by omega)]; rfl
          clear HO5 hra HCA0 HCN0
          refine wp_region_held_drew (S := (fun w' => w'.cell? ⟨gb, 0, none⟩ = some (.int .i64 g.cells) ∧ w'.cell? ⟨gb, 1, none⟩ = some (.slice pe g.evs.length ce) ∧ w'.cell? ⟨gb, 2, none⟩ = some (Vr) ∧ w'.cell? ⟨gb, 3, none⟩ = some (Vc) ∧ w'.cell? ⟨gb, 4, none⟩ = some (Vm) ∧ w'.cell? ⟨gb, 5, none⟩ = some (Va) ∧ w'.cell? ⟨gb, 6, none⟩ = some (Vd) ∧ w'.cell? ⟨gb, 7, none⟩ = some (Vt) ∧ w'.cell? ⟨gp, 0, none⟩ = some (.int .i64 pa) ∧ w'.cell? ⟨gp, 1, none⟩ = some (.int .i64 pb) ∧ w'.cell? ⟨s2, o2 + jj * 2, none⟩ = some (.int .i64 qa) ∧ w'.cell? ⟨s2, o2 + jj * 2 + 1, none⟩ = some (.int .i64 qb))) (by kernel_rfl) (HZ1.out _ (Below.refl _ _).drew) (fun hHeld => ?_)
          refine tk 0 rfl ?_; simp only [zz]
          refine tk 1 rfl ?_; simp only [zz]
          refine tk 2 rfl ?_; simp only [zz]
          refine tk 3 rfl ?_; simp only [zz]
          refine tk 4 rfl ?_; simp only [zz]
          refine tk 5 rfl ?_; simp only [zz]
          refine tk 6 rfl ?_; simp only [zz]
          refine tk 7 rfl ?_; simp only [zz]
          refine tk 8 rfl ?_; simp only [zz]
          refine tk 9 rfl ?_; simp only [zz]
          refine tk 10 rfl ?_; simp only [zz]
          refine tk 11 rfl ?_; simp only [zz]
          refine tk 12 rfl ?_; simp only [zz]
          refine tu 13 rfl ?_; simp only [zz]
          refine tu 14 rfl ?_; simp only [zz]
          refine tu 15 rfl ?_; simp only [zz]
          refine tu 16 rfl ?_; simp only [zz]
          refine tu 17 rfl ?_; simp only [zz]
          refine tu 18 rfl ?_; simp only [zz]
          refine tu 19 rfl ?_; simp only [zz]
          refine tu 20 rfl ?_; simp only [zz]
          refine tu 21 rfl ?_; simp only [zz]
          refine tu 22 rfl ?_; simp only [zz]
          refine tu 23 rfl ?_; simp only [zz]
          refine tu 24 rfl ?_; simp only [zz]
          refine tu 25 rfl ?_; simp only [zz]
          refine tu 26 rfl ?_; simp only [zz]
          refine tu 27 rfl ?_; simp only [zz]
          refine tu 28 rfl ?_; simp only [zz]
          refine tu 29 rfl ?_; simp only [zz]
          refine tu 30 rfl ?_; simp only [zz]
          refine tu 31 rfl ?_; simp only [zz]
          refine tu 32 rfl ?_; simp only [zz]
          refine tk 33 rfl ?_; simp only [zz]
          refine tk 34 rfl ?_; simp only [zz]
          refine tk 35 rfl ?_; simp only [zz]
          refine tu 36 rfl ?_; simp only [zz]
          refine tu 37 rfl ?_; simp only [zz]
          refine tu 38 rfl ?_; simp only [zz]
          refine tu 39 rfl ?_; simp only [zz]
          refine tu 40 rfl ?_; simp only [zz]
          refine tk 41 rfl ?_; simp only [zz]
          refine tk 42 rfl ?_; simp only [zz]
          refine tu 43 rfl ?_; simp only [zz]
          refine tu 44 rfl ?_; simp only [zz]
          refine tu 45 rfl ?_; simp only [zz]
          refine tu 46 rfl ?_; simp only [zz]
          refine tu 47 rfl ?_; simp only [zz]
          refine tu 48 rfl ?_; simp only [zz]
          refine tu 49 rfl ?_; simp only [zz]
          refine tk 50 rfl ?_; simp only [zz]
          refine wpAnyH_done (by kernel_rfl) ?_ _
          go_wp2_with fail
          go_meet
          exact ⟨by rw [HO.out]; rfl, (Below.refl _ _).drew⟩
        · have d5 : decide (pa < qa) = false := decide_eq_false h1
          by_cases h2 : pa = qa
          · have q2 : ((pa : Int) == qa) = true := by rw [beq_iff_eq]; exact h2
            by_cases h3 : pb ≤ qb
            · have d7 : decide (pb ≤ qb) = true := decide_eq_true h3
              have HO : Hid (refD g l kk = false) := by rw [Hid, HO5.out, hra, decide_eq_false (show ¬ qa < pa by omega), decide_eq_false (show ¬ qb < pb by omega)]; simp
              clear HO5 hra HCA0 HCN0 h2
              refine wp_region_held_drew (S := (fun w' => w'.cell? ⟨gb, 0, none⟩ = some (.int .i64 g.cells) ∧ w'.cell? ⟨gb, 1, none⟩ = some (.slice pe g.evs.length ce) ∧ w'.cell? ⟨gb, 2, none⟩ = some (Vr) ∧ w'.cell? ⟨gb, 3, none⟩ = some (Vc) ∧ w'.cell? ⟨gb, 4, none⟩ = some (Vm) ∧ w'.cell? ⟨gb, 5, none⟩ = some (Va) ∧ w'.cell? ⟨gb, 6, none⟩ = some (Vd) ∧ w'.cell? ⟨gb, 7, none⟩ = some (Vt) ∧ w'.cell? ⟨gp, 0, none⟩ = some (.int .i64 pa) ∧ w'.cell? ⟨gp, 1, none⟩ = some (.int .i64 pb) ∧ w'.cell? ⟨s2, o2 + jj * 2, none⟩ = some (.int .i64 qa) ∧ w'.cell? ⟨s2, o2 + jj * 2 + 1, none⟩ = some (.int .i64 qb))) (by kernel_rfl) (HZ1.out _ (Below.refl _ _).drew) (fun hHeld => ?_)
              refine tk 0 rfl ?_; simp only [zz]
              refine tk 1 rfl ?_; simp only [zz]
              refine tk 2 rfl ?_; simp only [zz]
              refine tk 3 rfl ?_; simp only [zz]
              refine tk 4 rfl ?_; simp only [zz]
              refine tk 5 rfl ?_; simp only [zz]
              refine tk 6 rfl ?_; simp only [zz]
              refine tk 7 rfl ?_; simp only [zz]
              refine tk 8 rfl ?_; simp only [zz]
              refine tk 9 rfl ?_; simp only [zz]
              refine tk 10 rfl ?_; simp only [zz]
              refine tk 11 rfl ?_; simp only [zz]
              refine tk 12 rfl ?_; simp only [zz]
              refine tk 13 rfl ?_; simp only [zz]
              refine tk 14 rfl ?_; simp only [zz]
              refine tk 15 rfl ?_; simp only [zz]
              refine tk 16 rfl ?_; simp only [zz]
              refine tk 17 rfl ?_; simp only [zz]
              refine tk 18 rfl ?_; simp only [zz]
              refine tk 19 rfl ?_; simp only [zz]
              refine tk 20 rfl ?_; simp only [zz]
              refine tk 21 rfl ?_; simp only [zz]
              refine tk 22 rfl ?_; simp only [zz]
              refine tk 23 rfl ?_; simp only [zz]
              refine tk 24 rfl ?_; simp only [zz]
              refine tk 25 rfl ?_; simp only [zz]
              refine tk 26 rfl ?_; simp only [zz]
              refine tk 27 rfl ?_; simp only [zz]
              refine tk 28 rfl ?_; simp only [zz]
              refine tk 29 rfl ?_; simp only [zz]
              refine tk 30 rfl ?_; simp only [zz]
              refine tk 31 rfl ?_; simp only [zz]
              refine tk 32 rfl ?_; simp only [zz]
              refine tk 33 rfl ?_; simp only [zz]
              refine tk 34 rfl ?_; simp only [zz]
              refine tk 35 rfl ?_; simp only [zz]
              refine tu 36 rfl ?_; simp only [zz]
              refine tu 37 rfl ?_; simp only [zz]
              refine tu 38 rfl ?_; simp only [zz]
              refine tu 39 rfl ?_; simp only [zz]
              refine tu 40 rfl ?_; simp only [zz]
              refine tk 41 rfl ?_; simp only [zz]
              refine tk 42 rfl ?_; simp only [zz]
              refine tu 43 rfl ?_; simp only [zz]
              refine tu 44 rfl ?_; simp only [zz]
              refine tu 45 rfl ?_; simp only [zz]
              refine tu 46 rfl ?_; simp only [zz]
              refine tu 47 rfl ?_; simp only [zz]
              refine tu 48 rfl ?_; simp only [zz]
              refine tu 49 rfl ?_; simp only [zz]
              refine tk 50 rfl ?_; simp only [zz]
              refine wpAnyH_done (by kernel_rfl) ?_ _
              go_wp2_with fail
              go_meet
              exact ⟨by rw [HO.out]; rfl, (Below.refl _ _).drew⟩
            · have d7 : decide (pb ≤ qb) = false := decide_eq_false h3
              have HO6 : Hid (refD g l kk = (isB g.evs pa [1] && befB g.evs pa pb)) := by rw [Hid, HO5.out, hra, decide_eq_true (show qa = pa by omega), decide_eq_true (show qb < pb by omega)]; simp
              clear HO5 hra h2
              cases hia : isB g.evs pa [1]
              · rw [hia] at HCA0
                have HCA := HCA0
                have HO : Hid (refD g l kk = false) := by rw [Hid, HO6.out, hia]; simp
                clear HCA0 HCN0 hia
                refine wp_region_held_drew (S := (fun w' => w'.cell? ⟨gb, 0, none⟩ = some (.int .i64 g.cells) ∧ w'.cell? ⟨gb, 1, none⟩ = some (.slice pe g.evs.length ce) ∧ w'.cell? ⟨gb, 2, none⟩ = some (Vr) ∧ w'.cell? ⟨gb, 3, none⟩ = some (Vc) ∧ w'.cell? ⟨gb, 4, none⟩ = some (Vm) ∧ w'.cell? ⟨gb, 5, none⟩ = some (Va) ∧ w'.cell? ⟨gb, 6, none⟩ = some (Vd) ∧ w'.cell? ⟨gb, 7, none⟩ = some (Vt) ∧ w'.cell? ⟨gp, 0, none⟩ = some (.int .i64 pa) ∧ w'.cell? ⟨gp, 1, none⟩ = some (.int .i64 pb) ∧ w'.cell? ⟨s2, o2 + jj * 2, none⟩ = some (.int .i64 qa) ∧ w'.cell? ⟨s2, o2 + jj * 2 + 1, none⟩ = some (.int .i64 qb))) (by kernel_rfl) (HZ1.out _ (Below.refl _ _).drew) (fun hHeld => ?_)
                refine tk 0 rfl ?_; simp only [zz]
                refine tk 1 rfl ?_; simp only [zz]
                refine tk 2 rfl ?_; simp only [zz]
                refine tk 3 rfl ?_; simp only [zz]
                refine tk 4 rfl ?_; simp only [zz]
                refine tk 5 rfl ?_; simp only [zz]
                refine tk 6 rfl ?_; simp only [zz]
                refine tk 7 rfl ?_; simp only [zz]
                refine tk 8 rfl ?_; simp only [zz]
                refine tk 9 rfl ?_; simp only [zz]
                refine tk 10 rfl ?_; simp only [zz]
                refine tk 11 rfl ?_; simp only [zz]
                refine tk 12 rfl ?_; simp only [zz]
                refine tk 13 rfl ?_; simp only [zz]
                refine tk 14 rfl ?_; simp only [zz]
                refine tk 15 rfl ?_; simp only [zz]
                refine tk 16 rfl ?_; simp only [zz]
                refine tk 17 rfl ?_; simp only [zz]
                refine tk 18 rfl ?_; simp only [zz]
                refine tk 19 rfl ?_; simp only [zz]
                refine tk 20 rfl ?_; simp only [zz]
                refine tk 21 rfl ?_; simp only [zz]
                refine tk 22 rfl ?_; simp only [zz]
                refine tk 23 rfl ?_; simp only [zz]
                refine tk 24 rfl ?_; simp only [zz]
                refine tk 25 rfl ?_; simp only [zz]
                refine tk 26 rfl ?_; simp only [zz]
                refine tk 27 rfl ?_; simp only [zz]
                refine tk 28 rfl ?_; simp only [zz]
                refine tk 29 rfl ?_; simp only [zz]
                refine tk 30 rfl ?_; simp only [zz]
                refine tk 31 rfl ?_; simp only [zz]
                refine tk 32 rfl ?_; simp only [zz]
                refine tk 33 rfl ?_; simp only [zz]
                refine tk 34 rfl ?_; simp only [zz]
                refine tk 35 rfl ?_; simp only [zz]
                refine tk 36 rfl ?_; simp only [zz]
                refine tk 37 rfl ?_; simp only [zz]
                refine tk 38 rfl ?_; simp only [zz]
                refine wpAnyH_ready (rs := [39]) (by kernel_rfl) (by simp) ?_
                refine AllReadyH.cons rfl (fun K hK => ?_) AllReadyH.nil
                simp only [z1, z2, z3]
                go_simp
                refine HCA.out.mono ?_
                rintro e w5 ⟨rfl, hB5⟩
                have hX5 : Below wb.heap.size wb w5 := ((Below.refl wb.heap.size wb).drew).trans hB5
                refine hK.out _ _ (HZ1.out w5 hX5) (fun hHeld => ?_)
                clear hK K
                try simp only [zz]
                refine tk 40 rfl ?_; simp only [zz]
                refine tk 41 rfl ?_; simp only [zz]
                refine tk 42 rfl ?_; simp only [zz]
                refine tu 43 rfl ?_; simp only [zz]
                refine tu 44 rfl ?_; simp only [zz]
                refine tu 45 rfl ?_; simp only [zz]
                refine tu 46 rfl ?_; simp only [zz]
                refine tu 47 rfl ?_; simp only [zz]
                refine tu 48 rfl ?_; simp only [zz]
                refine tu 49 rfl ?_; simp only [zz]
                refine tk 50 rfl ?_; simp only [zz]
                refine wpAnyH_done (by kernel_rfl) ?_ _
                go_wp2_with fail
                go_meet
                exact ⟨by rw [HO.out]; rfl, hX5⟩
              · rw [hia] at HCA0
                have HCA := HCA0
                cases hnx : befB g.evs pa pb
                · rw [hnx] at HCN0
                  have HCN := HCN0
                  have HO : Hid (refD g l kk = false) := by rw [Hid, HO6.out, hia, hnx]; rfl
                  clear HCA0 HCN0 hia hnx
                  refine wp_region_held_drew (S := (fun w' => w'.cell? ⟨gb, 0, none⟩ = some (.int .i64 g.cells) ∧ w'.cell? ⟨gb, 1, none⟩ = some (.slice pe g.evs.length ce) ∧ w'.cell? ⟨gb, 2, none⟩ = some (Vr) ∧ w'.cell? ⟨gb, 3, none⟩ = some (Vc) ∧ w'.cell? ⟨gb, 4, none⟩ = some (Vm) ∧ w'.cell? ⟨gb, 5, none⟩ = some (Va) ∧ w'.cell? ⟨gb, 6, none⟩ = some (Vd) ∧ w'.cell? ⟨gb, 7, none⟩ = some (Vt) ∧ w'.cell? ⟨gp, 0, none⟩ = some (.int .i64 pa) ∧ w'.cell? ⟨gp, 1, none⟩ = some (.int .i64 pb) ∧ w'.cell? ⟨s2, o2 + jj * 2, none⟩ = some (.int .i64 qa) ∧ w'.cell? ⟨s2, o2 + jj * 2 + 1, none⟩ = some (.int .i64 qb))) (by kernel_rfl) (HZ1.out _ (Below.refl _ _).drew) (fun hHeld => ?_)
                  refine tk 0 rfl ?_; simp only [zz]
                  refine tk 1 rfl ?_; simp only [zz]
                  refine tk 2 rfl ?_; simp only [zz]
                  refine tk 3 rfl ?_; simp only [zz]
                  refine tk 4 rfl ?_; simp only [zz]
                  refine tk 5 rfl ?_; simp only [zz]
                  refine tk 6 rfl ?_; simp only [zz]
                  refine tk 7 rfl ?_; simp only [zz]
                  refine tk 8 rfl ?_; simp only [zz]
                  refine tk 9 rfl ?_; simp only [zz]
                  refine tk 10 rfl ?_; simp only [zz]
                  refine tk 11 rfl ?_; simp only [zz]
                  refine tk 12 rfl ?_; simp only [zz]
                  refine tk 13 rfl ?_; simp only [zz]
                  refine tk 14 rfl ?_; simp only [zz]
                  refine tk 15 rfl ?_; simp only [zz]
                  refine tk 16 rfl ?_; simp only [zz]
                  refine tk 17 rfl ?_; simp only [zz]
                  refine tk 18 rfl ?_; simp only [zz]
                  refine tk 19 rfl ?_; simp only [zz]
                  refine tk 20 rfl ?_; simp only [zz]
                  refine tk 21 rfl ?_; simp only [zz]
                  refine tk 22 rfl ?_; simp only [zz]
                  refine tk 23 rfl ?_; simp only [zz]
                  refine tk 24 rfl ?_; simp only [zz]
                  refine tk 25 rfl ?_; simp only [zz]
                  refine tk 26 rfl ?_; simp only [zz]
                  refine tk 27 rfl ?_; simp only [zz]
                  refine tk 28 rfl ?_; simp only [zz]
                  refine tk 29 rfl ?_; simp only [zz]
                  refine tk 30 rfl ?_; simp only [zz]
                  refine tk 31 rfl ?_; simp only [zz]
                  refine tk 32 rfl ?_; simp only [zz]
                  refine tk 33 rfl ?_; simp only [zz]
                  refine tk 34 rfl ?_; simp only [zz]
                  refine tk 35 rfl ?_; simp only [zz]
                  refine tk 36 rfl ?_; simp only [zz]
                  refine tk 37 rfl ?_; simp only [zz]
                  refine tk 38 rfl ?_; simp only [zz]
                  refine wpAnyH_ready (rs := [39]) (by kernel_rfl) (by simp) ?_
                  refine AllReadyH.cons rfl (fun K hK => ?_) AllReadyH.nil
                  simp only [z1, z2, z3]
                  go_simp
                  refine HCA.out.mono ?_
                  rintro e w5 ⟨rfl, hB5⟩
                  have hX5 : Below wb.heap.size wb w5 := ((Below.refl wb.heap.size wb).drew).trans hB5
                  refine hK.out _ _ (HZ1.out w5 hX5) (fun hHeld => ?_)
                  clear hK K
                  try simp only [zz]
                  refine tk 40 rfl ?_; simp only [zz]
                  refine tk 41 rfl ?_; simp only [zz]
                  refine tk 42 rfl ?_; simp only [zz]
                  refine tk 43 rfl ?_; simp only [zz]
                  refine tk 44 rfl ?_; simp only [zz]
                  refine tk 45 rfl ?_; simp only [zz]
                  refine tk 46 rfl ?_; simp only [zz]
                  refine tk 47 rfl ?_; simp only [zz]
                  refine wpAnyH_ready (rs := [48]) (by kernel_rfl) (by simp) ?_
                  refine AllReadyH.cons rfl (fun K hK => ?_) AllReadyH.nil
                  simp only [z1, z2, z3]
                  go_simp
                  refine (HCN.out w5 hX5).mono ?_
                  rintro e w6 ⟨rfl, hB6⟩
                  have hX6 := below_step hX5 hX5.size hB6
                  refine hK.out _ _ (HZ1.out w6 hX6) (fun hHeld => ?_)
                  clear hK K
                  try simp only [zz]
                  refine tk 49 rfl ?_; simp only [zz]
                  refine tk 50 rfl ?_; simp only [zz]
                  refine wpAnyH_done (by kernel_rfl) ?_ _
                  go_wp2_with fail
                  go_meet
                  exact ⟨by rw [HO.out]; rfl, hX6⟩
                · rw [hnx] at HCN0
                  have HCN := HCN0
                  have HO : Hid (refD g l kk = true) := by rw [Hid, HO6.out, hia, hnx]; rfl
                  clear HCA0 HCN0 hia hnx
                  refine wp_region_held_drew (S := (fun w' => w'.cell? ⟨gb, 0, none⟩ = some (.int .i64 g.cells) ∧ w'.cell? ⟨gb, 1, none⟩ = some (.slice pe g.evs.length ce) ∧ w'.cell? ⟨gb, 2, none⟩ = some (Vr) ∧ w'.cell? ⟨gb, 3, none⟩ = some (Vc) ∧ w'.cell? ⟨gb, 4, none⟩ = some (Vm) ∧ w'.cell? ⟨gb, 5, none⟩ = some (Va) ∧ w'.cell? ⟨gb, 6, none⟩ = some (Vd) ∧ w'.cell? ⟨gb, 7, none⟩ = some (Vt) ∧ w'.cell? ⟨gp, 0, none⟩ = some (.int .i64 pa) ∧ w'.cell? ⟨gp, 1, none⟩ = some (.int .i64 pb) ∧ w'.cell? ⟨s2, o2 + jj * 2, none⟩ = some (.int .i64 qa) ∧ w'.cell? ⟨s2, o2 + jj * 2 + 1, none⟩ = some (.int .i64 qb))) (by kernel_rfl) (HZ1.out _ (Below.refl _ _).drew) (fun hHeld => ?_)
                  refine tk 0 rfl ?_; simp only [zz]
                  refine tk 1 rfl ?_; simp only [zz]
                  refine tk 2 rfl ?_; simp only [zz]
                  refine tk 3 rfl ?_; simp only [zz]
                  refine tk 4 rfl ?_; simp only [zz]
                  refine tk 5 rfl ?_; simp only [zz]
                  refine tk 6 rfl ?_; simp only [zz]
                  refine tk 7 rfl ?_; simp only [zz]
                  refine tk 8 rfl ?_; simp only [zz]
                  refine tk 9 rfl ?_; simp only [zz]
                  refine tk 10 rfl ?_; simp only [zz]
                  refine tk 11 rfl ?_; simp only [zz]
                  refine tk 12 rfl ?_; simp only [zz]
                  refine tk 13 rfl ?_; simp only [zz]
                  refine tk 14 rfl ?_; simp only [zz]
                  refine tk 15 rfl ?_; simp only [zz]
                  refine tk 16 rfl ?_; simp only [zz]
                  refine tk 17 rfl ?_; simp only [zz]
                  refine tk 18 rfl ?_; simp only [zz]
                  refine tk 19 rfl ?_; simp only [zz]
                  refine tk 20 rfl ?_; simp only [zz]
                  refine tk 21 rfl ?_; simp only [zz]
                  refine tk 22 rfl ?_; simp only [zz]
                  refine tk 23 rfl ?_; simp only [zz]
                  refine tk 24 rfl ?_; simp only [zz]
                  refine tk 25 rfl ?_; simp only [zz]
                  refine tk 26 rfl ?_; simp only [zz]
                  refine tk 27 rfl ?_; simp only [zz]
                  refine tk 28 rfl ?_; simp only [zz]
                  refine tk 29 rfl ?_; simp only [zz]
                  refine tk 30 rfl ?_; simp only [zz]
                  refine tk 31 rfl ?_; simp only [zz]
                  refine tk 32 rfl ?_; simp only [zz]
                  refine tk 33 rfl ?_; simp only [zz]
                  refine tk 34 rfl ?_; simp only [zz]
                  refine tk 35 rfl ?_; simp only [zz]
                  refine tk 36 rfl ?_; simp only [zz]
                  refine tk 37 rfl ?_; simp only [zz]
                  refine tk 38 rfl ?_; simp only [zz]
                  refine wpAnyH_ready (rs := [39]) (by kernel_rfl) (by simp) ?_
                  refine AllReadyH.cons rfl (fun K hK => ?_) AllReadyH.nil
                  simp only [z1, z2, z3]
                  go_simp
                  refine HCA.out.mono ?_
                  rintro e w5 ⟨rfl, hB5⟩
                  have hX5 : Below wb.heap.size wb w5 := ((Below.refl wb.heap.size wb).drew).trans hB5
                  refine hK.out _ _ (HZ1.out w5 hX5) (fun hHeld => ?_)
                  clear hK K
                  try simp only [zz]
                  refine tk 40 rfl ?_; simp only [zz]
                  refine tk 41 rfl ?_; simp only [zz]
                  refine tk 42 rfl ?_; simp only [zz]
                  refine tk 43 rfl ?_; simp only [zz]
                  refine tk 44 rfl ?_; simp only [zz]
                  refine tk 45 rfl ?_; simp only [zz]
                  refine tk 46 rfl ?_; simp only [zz]
                  refine tk 47 rfl ?_; simp only [zz]
                  refine wpAnyH_ready (rs := [48]) (by kernel_rfl) (by simp) ?_
                  refine AllReadyH.cons rfl (fun K hK => ?_) AllReadyH.nil
                  simp only [z1, z2, z3]
                  go_simp
                  refine (HCN.out w5 hX5).mono ?_
                  rintro e w6 ⟨rfl, hB6⟩
                  have hX6 := below_step hX5 hX5.size hB6
                  refine hK.out _ _ (HZ1.out w6 hX6) (fun hHeld => ?_)
                  clear hK K
                  try simp only [zz]
                  refine tk 49 rfl ?_; simp only [zz]
                  refine tk 50 rfl ?_; simp only [zz]
                  refine wpAnyH_done (by kernel_rfl) ?_ _
                  go_wp2_with fail
                  go_meet
                  exact ⟨by rw [HO.out]; rfl, hX6⟩
          · have q2 : ((pa : Int) == qa) = false := by rw [beq_eq_false_iff_ne]; exact h2
            have HO6 : Hid (refD g l kk = (isB g.evs pa [1] && befB g.evs pa pb)) := by rw [Hid, HO5.out, hra, decide_eq_true (show qa < pa by omega)]; simp
            clear HO5 hra h2
            cases hia : isB g.evs pa [1]
            · rw [hia] at HCA0
              have HCA := HCA0
              have HO : Hid (refD g l kk = false) := by rw [Hid, HO6.out, hia]; simp
              clear HCA0 HCN0 hia
              refine wp_region_held_drew (S := (fun w' => w'.cell? ⟨gb, 0, none⟩ = some (.int .i64 g.cells) ∧ w'.cell? ⟨gb, 1, none⟩ = some (.slice pe g.evs.length ce) ∧ w'.cell? ⟨gb, 2, none⟩ = some (Vr) ∧ w'.cell? ⟨gb, 3, none⟩ = some (Vc) ∧ w'.cell? ⟨gb, 4, none⟩ = some (Vm) ∧ w'.cell? ⟨gb, 5, none⟩ = some (Va) ∧ w'.cell? ⟨gb, 6, none⟩ = some (Vd) ∧ w'.cell? ⟨gb, 7, none⟩ = some (Vt) ∧ w'.cell? ⟨gp, 0, none⟩ = some (.int .i64 pa) ∧ w'.cell? ⟨gp, 1, none⟩ = some (.int .i64 pb) ∧ w'.cell? ⟨s2, o2 + jj * 2, none⟩ = some (.int .i64 qa) ∧ w'.cell? ⟨s2, o2 + jj * 2 + 1, none⟩ = some (.int .i64 qb))) (by kernel_rfl) (HZ1.out _ (Below.refl _ _).drew) (fun hHeld => ?_)
              refine tk 0 rfl ?_; simp only [zz]
              refine tk 1 rfl ?_; simp only [zz]
              refine tk 2 rfl ?_; simp only [zz]
              refine tk 3 rfl ?_; simp only [zz]
              refine tk 4 rfl ?_; simp only [zz]
              refine tk 5 rfl ?_; simp only [zz]
              refine tk 6 rfl ?_; simp only [zz]
              refine tk 7 rfl ?_; simp only [zz]
              refine tk 8 rfl ?_; simp only [zz]
              refine tk 9 rfl ?_; simp only [zz]
              refine tk 10 rfl ?_; simp only [zz]
              refine tk 11 rfl ?_; simp only [zz]
              refine tk 12 rfl ?_; simp only [zz]
              refine tk 13 rfl ?_; simp only [zz]
              refine tk 14 rfl ?_; simp only [zz]
              refine tk 15 rfl ?_; simp only [zz]
              refine tk 16 rfl ?_; simp only [zz]
              refine tk 17 rfl ?_; simp only [zz]
              refine tk 18 rfl ?_; simp only [zz]
              refine tk 19 rfl ?_; simp only [zz]
              refine tk 20 rfl ?_; simp only [zz]
              refine tk 21 rfl ?_; simp only [zz]
              refine tk 22 rfl ?_; simp only [zz]
              refine tu 23 rfl ?_; simp only [zz]
              refine tu 24 rfl ?_; simp only [zz]
              refine tu 25 rfl ?_; simp only [zz]
              refine tu 26 rfl ?_; simp only [zz]
              refine tu 27 rfl ?_; simp only [zz]
              refine tu 28 rfl ?_; simp only [zz]
              refine tu 29 rfl ?_; simp only [zz]
              refine tu 30 rfl ?_; simp only [zz]
              refine tu 31 rfl ?_; simp only [zz]
              refine tk 32 rfl ?_; simp only [zz]
              refine tk 33 rfl ?_; simp only [zz]
              refine tk 34 rfl ?_; simp only [zz]
              refine tk 35 rfl ?_; simp only [zz]
              refine tk 36 rfl ?_; simp only [zz]
              refine tk 37 rfl ?_; simp only [zz]
              refine tk 38 rfl ?_; simp only [zz]
              refine wpAnyH_ready (rs := [39]) (by kernel_rfl) (by simp) ?_
              refine AllReadyH.cons rfl (fun K hK => ?_) AllReadyH.nil
              simp only [z1, z2, z3]
              go_simp
              refine HCA.out.mono ?_
              rintro e w5 ⟨rfl, hB5⟩
              have hX5 : Below wb.heap.size wb w5 := ((Below.refl wb.heap.size wb).drew).trans hB5
              refine hK.out _ _ (HZ1.out w5 hX5) (fun hHeld => ?_)
              clear hK K
              try simp only [zz]
              refine tk 40 rfl ?_; simp only [zz]
              refine tk 41 rfl ?_; simp only [zz]
              refine tk 42 rfl ?_; simp only [zz]
              refine tu 43 rfl ?_; simp only [zz]
              refine tu 44 rfl ?_; simp only [zz]
              refine tu 45 rfl ?_; simp only [zz]
              refine tu 46 rfl ?_; simp only [zz]
              refine tu 47 rfl ?_; simp only [zz]
              refine tu 48 rfl ?_; simp only [zz]
              refine tu 49 rfl ?_; simp only [zz]
              refine tk 50 rfl ?_; simp only [zz]
              refine wpAnyH_done (by kernel_rfl) ?_ _
              go_wp2_with fail
              go_meet
              exact ⟨by rw [HO.out]; rfl, hX5⟩
            · rw [hia] at HCA0
              have HCA := HCA0
              cases hnx : befB g.evs pa pb
              · rw [hnx] at HCN0
                have HCN := HCN0
                have HO : Hid (refD g l kk = false) := by rw [Hid, HO6.out, hia, hnx]; rfl
                clear HCA0 HCN0 hia hnx
                refine wp_region_held_drew (S := (fun w' => w'.cell? ⟨gb, 0, none⟩ = some (.int .i64 g.cells) ∧ w'.cell? ⟨gb, 1, none⟩ = some (.slice pe g.evs.length ce) ∧ w'.cell? ⟨gb, 2, none⟩ = some (Vr) ∧ w'.cell? ⟨gb, 3, none⟩ = some (Vc) ∧ w'.cell? ⟨gb, 4, none⟩ = some (Vm) ∧ w'.cell? ⟨gb, 5, none⟩ = some (Va) ∧ w'.cell? ⟨gb, 6, none⟩ = some (Vd) ∧ w'.cell? ⟨gb, 7, none⟩ = some (Vt) ∧ w'.cell? ⟨gp, 0, none⟩ = some (.int .i64 pa) ∧ w'.cell? ⟨gp, 1, none⟩ = some (.int .i64 pb) ∧ w'.cell? ⟨s2, o2 + jj * 2, none⟩ = some (.int .i64 qa) ∧ w'.cell? ⟨s2, o2 + jj * 2 + 1, none⟩ = some (.int .i64 qb))) (by kernel_rfl) (HZ1.out _ (Below.refl _ _).drew) (fun hHeld => ?_)
                refine tk 0 rfl ?_; simp only [zz]
                refine tk 1 rfl ?_; simp only [zz]
                refine tk 2 rfl ?_; simp only [zz]
                refine tk 3 rfl ?_; simp only [zz]
                refine tk 4 rfl ?_; simp only [zz]
                refine tk 5 rfl ?_; simp only [zz]
                refine tk 6 rfl ?_; simp only [zz]
                refine tk 7 rfl ?_; simp only [zz]
                refine tk 8 rfl ?_; simp only [zz]
                refine tk 9 rfl ?_; simp only [zz]
                refine tk 10 rfl ?_; simp only [zz]
                refine tk 11 rfl ?_; simp only [zz]
                refine tk 12 rfl ?_; simp only [zz]
                refine tk 13 rfl ?_; simp only [zz]
                refine tk 14 rfl ?_; simp only [zz]
                refine tk 15 rfl ?_; simp only [zz]
                refine tk 16 rfl ?_; simp only [zz]
                refine tk 17 rfl ?_; simp only [zz]
                refine tk 18 rfl ?_; simp only [zz]
                refine tk 19 rfl ?_; simp only [zz]
                refine tk 20 rfl ?_; simp only [zz]
                refine tk 21 rfl ?_; simp only [zz]
                refine tk 22 rfl ?_; simp only [zz]
                refine tu 23 rfl ?_; simp only [zz]
                refine tu 24 rfl ?_; simp only [zz]
                refine tu 25 rfl ?_; simp only [zz]
                refine tu 26 rfl ?_; simp only [zz]
                refine tu 27 rfl ?_; simp only [zz]
                refine tu 28 rfl ?_; simp only [zz]
                refine tu 29 rfl ?_; simp only [zz]
                refine tu 30 rfl ?_; simp only [zz]
                refine tu 31 rfl ?_; simp only [zz]
                refine tk 32 rfl ?_; simp only [zz]
                refine tk 33 rfl ?_; simp only [zz]
                refine tk 34 rfl ?_; simp only [zz]
                refine tk 35 rfl ?_; simp only [zz]
                refine tk 36 rfl ?_; simp only [zz]
                refine tk 37 rfl ?_; simp only [zz]
                refine tk 38 rfl ?_; simp only [zz]
                refine wpAnyH_ready (rs := [39]) (by kernel_rfl) (by simp) ?_
                refine AllReadyH.cons rfl (fun K hK => ?_) AllReadyH.nil
                simp only [z1, z2, z3]
                go_simp
                refine HCA.out.mono ?_
                rintro e w5 ⟨rfl, hB5⟩
                have hX5 : Below wb.heap.size wb w5 := ((Below.refl wb.heap.size wb).drew).trans hB5
                refine hK.out _ _ (HZ1.out w5 hX5) (fun hHeld => ?_)
                clear hK K
                try simp only [zz]
                refine tk 40 rfl ?_; simp only [zz]
                refine tk 41 rfl ?_; simp only [zz]
                refine tk 42 rfl ?_; simp only [zz]
                refine tk 43 rfl ?_; simp only [zz]
                refine tk 44 rfl ?_; simp only [zz]
                refine tk 45 rfl ?_; simp only [zz]
                refine tk 46 rfl ?_; simp only [zz]
                refine tk 47 rfl ?_; simp only [zz]
                refine wpAnyH_ready (rs := [48]) (by kernel_rfl) (by simp) ?_
                refine AllReadyH.cons rfl (fun K hK => ?_) AllReadyH.nil
                simp only [z1, z2, z3]
                go_simp
                refine (HCN.out w5 hX5).mono ?_
                rintro e w6 ⟨rfl, hB6⟩
                have hX6 := below_step hX5 hX5.size hB6
                refine hK.out _ _ (HZ1.out w6 hX6) (fun hHeld => ?_)
                clear hK K
                try simp only [zz]
                refine tk 49 rfl ?_; simp only [zz]
                refine tk 50 rfl ?_; simp only [zz]
                refine wpAnyH_done (by kernel_rfl) ?_ _
                go_wp2_with fail
                go_meet
                exact ⟨by rw [HO.out]; rfl, hX6⟩
              · rw [hnx] at HCN0
                have HCN := HCN0
                have HO : Hid (refD g l kk = true) := by rw [Hid, HO6.out, hia, hnx]; rfl
                clear HCA0 HCN0 hia hnx
                refine wp_region_held_drew (S := (fun w' => w'.cell? ⟨gb, 0, none⟩ = some (.int .i64 g.cells) ∧ w'.cell? ⟨gb, 1, none⟩ = some (.slice pe g.evs.length ce) ∧ w'.cell? ⟨gb, 2, none⟩ = some (Vr) ∧ w'.cell? ⟨gb, 3, none⟩ = some (Vc) ∧ w'.cell? ⟨gb, 4, none⟩ = some (Vm) ∧ w'.cell? ⟨gb, 5, none⟩ = some (Va) ∧ w'.cell? ⟨gb, 6, none⟩ = some (Vd) ∧ w'.cell? ⟨gb, 7, none⟩ = some (Vt) ∧ w'.cell? ⟨gp, 0, none⟩ = some (.int .i64 pa) ∧ w'.cell? ⟨gp, 1, none⟩ = some (.int .i64 pb) ∧ w'.cell? ⟨s2, o2 + jj * 2, none⟩ = some (.int .i64 qa) ∧ w'.cell? ⟨s2, o2 + jj * 2 + 1, none⟩ = some (.int .i64 qb))) (by kernel_rfl) (HZ1.out _ (Below.refl _ _).drew) (fun hHeld => ?_)
                refine tk 0 rfl ?_; simp only [zz]
                refine tk 1 rfl ?_; simp only [zz]
                refine tk 2 rfl ?_; simp only [zz]
                refine tk 3 rfl ?_; simp only [zz]
                refine tk 4 rfl ?_; simp only [zz]
                refine tk 5 rfl ?_; simp only [zz]
                refine tk 6 rfl ?_; simp only [zz]
                refine tk 7 rfl ?_; simp only [zz]
                refine tk 8 rfl ?_; simp only [zz]
                refine tk 9 rfl ?_; simp only [zz]
                refine tk 10 rfl ?_; simp only [zz]
                refine tk 11 rfl ?_; simp only [zz]
                refine tk 12 rfl ?_; simp only [zz]
                refine tk 13 rfl ?_; simp only [zz]
                refine tk 14 rfl ?_; simp only [zz]
                refine tk 15 rfl ?_; simp only [zz]
                refine tk 16 rfl ?_; simp only [zz]
                refine tk 17 rfl ?_; simp only [zz]
                refine tk 18 rfl ?_; simp only [zz]
                refine tk 19 rfl ?_; simp only [zz]
                refine tk 20 rfl ?_; simp only [zz]
                refine tk 21 rfl ?_; simp only [zz]
                refine tk 22 rfl ?_; simp only [zz]
                refine tu 23 rfl ?_; simp only [zz]
                refine tu 24 rfl ?_; simp only [zz]
                refine tu 25 rfl ?_; simp only [zz]
                refine tu 26 rfl ?_; simp only [zz]
                refine tu 27 rfl ?_; simp only [zz]
                refine tu 28 rfl ?_; simp only [zz]
                refine tu 29 rfl ?_; simp only [zz]
                refine tu 30 rfl ?_; simp only [zz]
                refine tu 31 rfl ?_; simp only [zz]
                refine tk 32 rfl ?_; simp only [zz]
                refine tk 33 rfl ?_; simp only [zz]
                refine tk 34 rfl ?_; simp only [zz]
                refine tk 35 rfl ?_; simp only [zz]
                refine tk 36 rfl ?_; simp only [zz]
                refine tk 37 rfl ?_; simp only [zz]
                refine tk 38 rfl ?_; simp only [zz]
                refine wpAnyH_ready (rs := [39]) (by kernel_rfl) (by simp) ?_
                refine AllReadyH.cons rfl (fun K hK => ?_) AllReadyH.nil
                simp only [z1, z2, z3]
                go_simp
                refine HCA.out.mono ?_
                rintro e w5 ⟨rfl, hB5⟩
                have hX5 : Below wb.heap.size wb w5 := ((Below.refl wb.heap.size wb).drew).trans hB5
                refine hK.out _ _ (HZ1.out w5 hX5) (fun hHeld => ?_)
                clear hK K
                try simp only [zz]
                refine tk 40 rfl ?_; simp only [zz]
                refine tk 41 rfl ?_; simp only [zz]
                refine tk 42 rfl ?_; simp only [zz]
                refine tk 43 rfl ?_; simp only [zz]
                refine tk 44 rfl ?_; simp only [zz]
                refine tk 45 rfl ?_; simp only [zz]
                refine tk 46 rfl ?_; simp only [zz]
                refine tk 47 rfl ?_; simp only [zz]
                refine wpAnyH_ready (rs := [48]) (by kernel_rfl) (by simp) ?_
                refine AllReadyH.cons rfl (fun K hK => ?_) AllReadyH.nil
                simp only [z1, z2, z3]
                go_simp
                refine (HCN.out w5 hX5).mono ?_
                rintro e w6 ⟨rfl, hB6⟩
                have hX6 := below_step hX5 hX5.size hB6
                refine hK.out _ _ (HZ1.out w6 hX6) (fun hHeld => ?_)
                clear hK K
                try simp only [zz]
                refine tk 49 rfl ?_; simp only [zz]
                refine tk 50 rfl ?_; simp only [zz]
                refine wpAnyH_done (by kernel_rfl) ?_ _
                go_wp2_with fail
                go_meet
                exact ⟨by rw [HO.out]; rfl, hX6⟩
    · obtain rfl : res = -1 := by rw [← HR.out]; exact fstBad_none (fun j h0 hj => HALL.out j h0 (by omega))
      go_wp2_with fail
      go_ret
      exact ⟨rfl, HBW.out⟩
end Go.Proofs.YtjhhimjnoljojaaGreatDoor
