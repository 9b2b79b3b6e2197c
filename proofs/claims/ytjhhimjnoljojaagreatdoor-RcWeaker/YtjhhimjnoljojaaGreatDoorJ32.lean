/- A graph of our own: read, and one event of it overwritten. -/
import Derived.Test.YtjhhimjnoljojaaGreatDoorRcEvS
import Derived.Test.YtjhhimjnoljojaaGreatDoorJ27
import Derived.Test.YtjhhimjnoljojaaGreatDoorJ26
namespace Go.Proofs.YtjhhimjnoljojaaGreatDoor
open Go.RowKit Go.Shelf Sx
theorem OwnG.gr {w : World} {base : Nat} {U : GrV} {g : Gr} (h : OwnG w base U g) (hb : GrB g) (he : g.evs.length * 40 ≤ 140737488355328) : GrR w U g := by
  obtain ⟨B, vs, h1, h2⟩ := h.co
  obtain ⟨b1, b2, b3, b4, b5, b6, b7⟩ := hb
  exact ⟨owns_evarg h.ev he, owns_pargI h.rf b1, h2.coarg (by omega) (fun i l hl => by have := b7 l (List.mem_of_getElem? hl); omega), owns_pargI h.rmw b2, owns_pargI h.addr b3, owns_pargI h.dat b4, owns_pargI h.ctrl b5⟩
def setEv (g : Gr) (i : Nat) (e : Ev) : Gr := { g with evs := g.evs.set i e }
theorem OwnG.set {w : World} {base es cap : Nat} {U : GrV} {g : Gr} (h : OwnG w base U g) (hU : U.ev = .slice (some ⟨es, 0, none⟩) g.evs.length cap) {i : Nat} (hi : i < g.evs.length) (e : Ev) : OwnG (w.setCells es (i * 5) (evL e)) base U (setEv g i e) := by
  have hE := h.ev
  rw [hU] at hE
  obtain ⟨cur, hB⟩ := zk_blk hE (g := es) rfl
  have keep : ∀ {b' : Nat} {t : TypeId} {size : Nat} {v : Value} {n : Nat} {xs : List Value}, t ≠ 31 → w.ownsRow b' t size v n xs → (w.setCells es (i * 5) (evL e)).ownsRow b' t size v n xs := fun ht ho => zk_keep ho fun k hk => cells_apart _ _ _ (zk_ne ho hB ht hk)
  obtain ⟨B, vs, h1, h2⟩ := h.co
  refine ⟨?_, keep (by decide) h.rf, ⟨B, vs, h1, keep (by decide) h2.own, h2.rows.len, fun k x l hx hl => keep (by decide) (h2.rows.row k x l hx hl), h2.rows.apart⟩, keep (by decide) h.rmw, keep (by decide) h.addr, keep (by decide) h.dat, keep (by decide) h.ctrl⟩
  rw [hU]
  have := own_set hE hi e
  rw [show (setEv g i e).evs = g.evs.set i e from rfl]
  rw [List.length_set] at this ⊢
  exact this
theorem setEv_at {g : Gr} {i j : Nat} {e : Ev} : (setEv g i e).ev j = if j = i ∧ i < g.evs.length then e else g.ev j := by
  unfold setEv Gr.ev
  rw [List.getD_eq_getElem?_getD, List.getElem?_set, List.getD_eq_getElem?_getD]
  by_cases h1 : i = j
  · subst h1
    by_cases h2 : i < g.evs.length
    · simp [h2]
    · simp [h2]
  · simp [h1, Ne.symm h1]
end Go.Proofs.YtjhhimjnoljojaaGreatDoor
namespace Go.Proofs.YtjhhimjnoljojaaGreatDoor
open Go.RowKit Go.Shelf Sx
def evC (e : Ev) : Array Value := #[.int .i64 e.t, .int .i64 e.k, .int .i64 e.l, .int .u64 e.v, .int .i64 e.m]
theorem wk_refl (g : Gr) : Wk g g := ⟨rfl, rfl, rfl, rfl, rfl, rfl, rfl, rfl, fun i _ => ⟨rfl, rfl, rfl, by unfold wkB; simp⟩⟩
theorem wk_set {g h : Gr} (w : Wk g h) {i : Nat} (hi : i < g.evs.length) (he : h.ev i = g.ev i) {m : Int} (hm : wkB (g.ev i).k m (g.ev i).m = true) : Wk g (setEv h i { h.ev i with m := m }) := by
  refine ⟨w.cells, w.rf, w.co, w.rmw, w.addr, w.dat, w.ctrl, by unfold setEv; rw [List.length_set]; exact w.len, fun j hj => ?_⟩
  rw [setEv_at]
  by_cases e : j = i ∧ i < h.evs.length
  · rw [if_pos e, he]
    obtain ⟨rfl, _⟩ := e
    exact ⟨rfl, rfl, rfl, hm⟩
  · rw [if_neg e]
    exact w.ev j hj
theorem grB_wk {g h : Gr} (w : Wk g h) (hb : GrB g) : GrB h := by
  unfold GrB
  rw [w.rf, w.rmw, w.addr, w.dat, w.ctrl, w.co]
  exact hb
structure LpR (g : Gr) (base hb : Nat) (UG : Array Value) (U : GrV) (i : Nat) (h : Gr) (w : World) : Prop where
  wk : Wk g h
  rest : ∀ j, i ≤ j → j < g.evs.length → h.ev j = g.ev j
  own : OwnG w base U h
  blk : Blk w hb 27 UG
theorem LpR.below {g : Gr} {base hb : Nat} {UG : Array Value} {U : GrV} {i : Nat} {h : Gr} {w w' : World} (x : LpR g base hb UG U i h w) (b : Below w.heap.size w w') : LpR g base hb UG U i h w' := ⟨x.wk, x.rest, x.own.below b, x.blk.of_below b⟩
theorem LpR.next {g : Gr} {base hb : Nat} {UG : Array Value} {U : GrV} {i : Nat} {h : Gr} {w : World} (x : LpR g base hb UG U i h w) : LpR g base hb UG U (i + 1) h w := ⟨x.wk, fun j h1 h2 => x.rest j (by omega) h2, x.own, x.blk⟩
set_option linter.unusedSimpArgs false in
set_option maxRecDepth 100000 in
set_option maxHeartbeats 32000000 in
theorem RcWeaker_calls (V : GrV) (g : Gr) (vm : Value) (ms : List Int) (w : World) (h : GrR w V g) (hgb : GrB g) (hms : IntsR w vm ms) (hm8 : ms.length * 8 ≤ 140737488355328) (hF : Frm w) (hT : Tab w) : Calls Tryz.prog 6 #[V.val g, vm] w fun r w' => r = .returned (.bool true) ∧ Below w.heap.size w w' := by
  obtain ⟨pm, cm, rfl, hmp⟩ := intsR_form hms
  have hlen : g.evs.length * 40 ≤ 140737488355328 := by obtain ⟨_, _, _, _, k, _⟩ := h.ev; exact k
  have hg0 := Blk.new w 27 #[.int .i64 g.cells, V.ev, V.rf, V.co, V.rmw, V.addr, V.dat, V.ctrl]
  have hB0 : Below w.heap.size w (w.alloc (.cells #[.int .i64 g.cells, V.ev, V.rf, V.co, V.rmw, V.addr, V.dat, V.ctrl] 27)) := (Below.refl _ _).alloc (Nat.le_refl _) _
  have HV := hid_of (h.below hB0)
  have HF := hid_of (hF.step hB0)
  have HT := hid_of (hT.step' hB0)
  have HMS := hid_of (hms.below hB0)
  have HB0 := hid_of hB0
  have HG0 := hid_of hg0
  have HGB := hid_of hgb
  unfold GrV.val
  clear h hF hT hB0 hg0 hgb hms hmp
  go_enter Tryz.func6, Tryz.ntmps6
  go_upto_region 1 with fail
  generalize w.alloc (.cells #[.int .i64 g.cells, V.ev, V.rf, V.co, V.rmw, V.addr, V.dat, V.ctrl] 27) = W0 at *
  go_wp2_with (first | refine wpList_load_row rfl 27 _ rfl w.heap.size rfl 27 #[.int .i64 g.cells, V.ev, V.rf, V.co, V.rmw, V.addr, V.dat, V.ctrl] (0, 0) _ HG0.out Tryz.underlying27 rfl (by kernel_rfl) ?_)
  refine (rcCheck_calls V g W0 HV.out HF.out HT.out).mono ?_
  rintro e w1 ⟨ax, va, la, er, rfl, hans, hown, hB1⟩
  obtain ⟨pz, cz, rfl⟩ := owns_len hown
  have HANS := hid_of hans
  have HA1 := hid_of hB1
  have HG1 := hid_of (HG0.out.of_below hB1)
  clear hans hown hB1
  go_wp2_with (first | refine wpList_load_row rfl 27 _ rfl w.heap.size rfl 27 #[.int .i64 g.cells, V.ev, V.rf, V.co, V.rmw, V.addr, V.dat, V.ctrl] (0, 0) _ HG1.out Tryz.underlying27 rfl (by kernel_rfl) ?_)
  refine (r8CopiedO_calls V g w1 (HV.out.below HA1.out) HGB.out).mono ?_
  rintro e w2 ⟨U, rfl, hO, hB2⟩
  obtain ⟨Ue, Ur, Uc, Um, Ua, Ud, Ut⟩ := U
  obtain ⟨q1, c1, e1⟩ := owns_len hO.ev
  obtain ⟨q2, c2, e2⟩ := owns_len hO.rf
  obtain ⟨B, vs, hBB, hC⟩ := hO.co
  obtain ⟨q3, c3, e3⟩ := owns_len hC.own
  rw [hC.rows.len] at e3
  obtain ⟨q4, c4, e4⟩ := owns_len hO.rmw
  obtain ⟨q5, c5, e5⟩ := owns_len hO.addr
  obtain ⟨q6, c6, e6⟩ := owns_len hO.dat
  obtain ⟨q7, c7, e7⟩ := owns_len hO.ctrl
  dsimp only at e1 e2 e3 e4 e5 e6 e7
  subst e1 e2 e3 e4 e5 e6 e7
  clear hBB hC
  have hA2 : Below W0.heap.size W0 w2 := below_step HA1.out HA1.out.size hB2
  have hz := Blk.new w2 27 #[.int .i64 0, .slice none 0 0, .slice none 0 0, .slice none 0 0, .slice none 0 0, .slice none 0 0, .slice none 0 0, .slice none 0 0]
  have hBz : Below w2.heap.size w2 ((w2.alloc (.cells #[.int .i64 0, .slice none 0 0, .slice none 0 0, .slice none 0 0, .slice none 0 0, .slice none 0 0, .slice none 0 0, .slice none 0 0] 27)).setRow w2.heap.size #[.int .i64 g.cells, .slice q1 g.evs.length c1, .slice q2 g.rf.length c2, .slice q3 g.co.length c3, .slice q4 g.rmw.length c4, .slice q5 g.addr.length c5, .slice q6 g.dat.length c6, .slice q7 g.ctrl.length c7]) := ((Below.refl w2.heap.size w2).alloc (Nat.le_refl _) _).trans (below_row _ (Nat.le_refl _))
  have hhb : Hid (W0.heap.size ≤ w2.heap.size) := hA2.size
  have hbs : Hid (W0.heap.size ≤ w1.heap.size) := HA1.out.size
  have HLP : Hid (LpR g w1.heap.size w2.heap.size #[.int .i64 g.cells, .slice q1 g.evs.length c1, .slice q2 g.rf.length c2, .slice q3 g.co.length c3, .slice q4 g.rmw.length c4, .slice q5 g.addr.length c5, .slice q6 g.dat.length c6, .slice q7 g.ctrl.length c7] ⟨.slice q1 g.evs.length c1, .slice q2 g.rf.length c2, .slice q3 g.co.length c3, .slice q4 g.rmw.length c4, .slice q5 g.addr.length c5, .slice q6 g.dat.length c6, .slice q7 g.ctrl.length c7⟩ 0 g ((w2.alloc (.cells #[.int .i64 0, .slice none 0 0, .slice none 0 0, .slice none 0 0, .slice none 0 0, .slice none 0 0, .slice none 0 0, .slice none 0 0] 27)).setRow w2.heap.size #[.int .i64 g.cells, .slice q1 g.evs.length c1, .slice q2 g.rf.length c2, .slice q3 g.co.length c3, .slice q4 g.rmw.length c4, .slice q5 g.addr.length c5, .slice q6 g.dat.length c6, .slice q7 g.ctrl.length c7])) := ⟨wk_refl g, fun _ _ _ => rfl, hO.below hBz, hz.setRow' _⟩
  have HA3 : Hid (Below W0.heap.size W0 ((w2.alloc (.cells #[.int .i64 0, .slice none 0 0, .slice none 0 0, .slice none 0 0, .slice none 0 0, .slice none 0 0, .slice none 0 0, .slice none 0 0] 27)).setRow w2.heap.size #[.int .i64 g.cells, .slice q1 g.evs.length c1, .slice q2 g.rf.length c2, .slice q3 g.co.length c3, .slice q4 g.rmw.length c4, .slice q5 g.addr.length c5, .slice q6 g.dat.length c6, .slice q7 g.ctrl.length c7])) := below_step hA2 hA2.size hBz
  go_upto_region 3 with (first | refine wpList_store_row rfl 27 _ _ rfl w2.heap.size #[.int .i64 g.cells, .slice q1 g.evs.length c1, .slice q2 g.rf.length c2, .slice q3 g.co.length c3, .slice q4 g.rmw.length c4, .slice q5 g.addr.length c5, .slice q6 g.dat.length c6, .slice q7 g.ctrl.length c7] rfl rfl 27 #[.int .i64 0, .slice none 0 0, .slice none 0 0, .slice none 0 0, .slice none 0 0, .slice none 0 0, .slice none 0 0, .slice none 0 0] hz (by kernel_rfl) rfl (by kernel_rfl) ?_)
  clear hz hBz hA2 hO hB2 HA1 HG0 HG1
  generalize (w2.alloc (.cells #[.int .i64 0, .slice none 0 0, .slice none 0 0, .slice none 0 0, .slice none 0 0, .slice none 0 0, .slice none 0 0, .slice none 0 0] 27)).setRow w2.heap.size #[.int .i64 g.cells, .slice q1 g.evs.length c1, .slice q2 g.rf.length c2, .slice q3 g.co.length c3, .slice q4 g.rmw.length c4, .slice q5 g.addr.length c5, .slice q6 g.dat.length c6, .slice q7 g.ctrl.length c7] = w3 at *
  generalize w2.heap.size = hb at *
  generalize w1.heap.size = base at *
  go_wp2_with fail
  go_loopg [9] g.evs.length (fun f v9 wr => ∃ (i : Nat) (h : Gr), v9 = .int .i64 ((i : Nat) : Int) ∧ i ≤ g.evs.length ∧ Hid (i + f = g.evs.length) ∧ Hid (LpR g base hb #[.int .i64 g.cells, .slice q1 g.evs.length c1, .slice q2 g.rf.length c2, .slice q3 g.co.length c3, .slice q4 g.rmw.length c4, .slice q5 g.addr.length c5, .slice q6 g.dat.length c6, .slice q7 g.ctrl.length c7] ⟨.slice q1 g.evs.length c1, .slice q2 g.rf.length c2, .slice q3 g.co.length c3, .slice q4 g.rmw.length c4, .slice q5 g.addr.length c5, .slice q6 g.dat.length c6, .slice q7 g.ctrl.length c7⟩ i h wr) ∧ Hid (Below W0.heap.size W0 wr))
  case atStart => exact ⟨0, g, rfl, Nat.zero_le _, Nat.zero_add _, HLP.out, HA3.out⟩
  case round =>
    clear HLP HA3
    obtain ⟨i, h, rfl, hi, HIF, HL, HB⟩ := hrel
    generalize hwq : wr = wa at *
    clear hwq
    have y1 : wa.cell? ⟨hb, 1, none⟩ = some (.slice q1 g.evs.length c1) := HL.out.blk.cell rfl
    have I0 : (0 : Int) ≤ ((i : Nat) : Int) := by omega
    by_cases hlt : i < g.evs.length
    · have I1 : ((i : Nat) : Int) < ((g.evs.length : Nat) : Int) := by omega
      by_cases hlm : i < ms.length
      · have M1 : ((i : Nat) : Int) < ((ms.length : Nat) : Int) := by omega
        have hwl : h.evs.length = g.evs.length := HL.out.wk.len
        have hev : h.ev i = g.ev i := HL.out.rest i (Nat.le_refl _) hlt
        have hE := HL.out.own.ev
        dsimp only at hE
        obtain ⟨es, rfl⟩ : ∃ es, q1 = some ⟨es, 0, none⟩ := by
          rcases hE.2 with ⟨k, _⟩ | ⟨es, cap, cur, k, _⟩
          · have : g.evs.length = 0 := by simpa using (Value.slice.inj k).2.1
            omega
          · exact ⟨es, (Value.slice.inj k).1⟩
        have hAt : EvsAt wa es 0 h.evs := by
          obtain ⟨p0, k0, e0, hp0, _, _⟩ := owns_evarg hE (by rw [hwl]; exact hlen)
          obtain ⟨s, o, e1, h1⟩ := hp0 (by omega)
          have e2 := (Value.slice.inj e0).1
          rw [e1] at e2
          have e3 := Option.some.inj e2
          injection e3 with e4 e5
          subst e4 e5
          exact h1
        have hi2 : i < h.evs.length := by omega
        have m0 := hAt.c0 i _ (Gr.ev_at hi2)
        have m1 := hAt.c1 i _ (Gr.ev_at hi2)
        have m2 := hAt.c2 i _ (Gr.ev_at hi2)
        have m3 := hAt.c3 i _ (Gr.ev_at hi2)
        have m4 := hAt.c4 i _ (Gr.ev_at hi2)
        rw [hev, Nat.zero_add] at m0 m1 m2 m3 m4
        have HE := hid_of hE
        have HEV := hid_of hev
        have HWL := hid_of hwl
        clear hAt hE hev hwl
        obtain ⟨pq, cq, eq, hmm⟩ := intsR_form (HMS.out.below HB.out)
        obtain ⟨mss, mo, emo, hml, hmc⟩ := hmm (by omega)
        have epq := (Value.slice.inj eq).1
        rw [emo] at epq
        subst epq
        obtain ⟨m', hm'⟩ : ∃ x, ms[i]? = some x := ⟨_, List.getElem?_eq_getElem hlm⟩
        have mm := hmc i m' hm'
        clear eq emo hmc hm'
        have hz := Blk.new wa 31 #[.int .i64 0, .int .i64 0, .int .i64 0, .int .u64 0, .int .i64 0]
        have hBz : Below wa.heap.size wa ((wa.alloc (.cells #[.int .i64 0, .int .i64 0, .int .i64 0, .int .u64 0, .int .i64 0] 31)).setRow wa.heap.size (evC (g.ev i))) := ((Below.refl wa.heap.size wa).alloc (Nat.le_refl _) _).trans (below_row _ (Nat.le_refl _))
        have HZ := hid_of (hz.setRow' (evC (g.ev i)))
        go_upto_region 7 with (first | refine wpList_store_row rfl 31 _ _ rfl wa.heap.size (evC (g.ev i)) rfl rfl 31 #[.int .i64 0, .int .i64 0, .int .i64 0, .int .u64 0, .int .i64 0] hz (by kernel_rfl) rfl (by kernel_rfl) ?_)
        try simp only [Act.put]
        clear hz m0 m1 m2 m3 m4
        have mx := (hBz.cell (p := ⟨mss, mo + i, none⟩) hml).trans mm
        have HBx := hid_of hBz
        have hmx : mss < ((wa.alloc (.cells #[.int .i64 0, .int .i64 0, .int .i64 0, .int .u64 0, .int .i64 0] 31)).setRow wa.heap.size (evC (g.ev i))).heap.size := Nat.lt_of_lt_of_le hml hBz.size
        have hzx : Hid (wa.heap.size ≤ wa.heap.size) := Nat.le_refl _
        clear hBz mm
        generalize (wa.alloc (.cells #[.int .i64 0, .int .i64 0, .int .i64 0, .int .u64 0, .int .i64 0] 31)).setRow wa.heap.size (evC (g.ev i)) = wx at *
        generalize hzz : wa.heap.size = zx at HZ ⊢
        have hzx2 : Hid (wa.heap.size ≤ zx) := by rw [Hid]; omega
        clear hzx hzz
        obtain ⟨q, hq⟩ : ∃ q, (decide ((g.ev i).t < 0) || !wkB (g.ev i).k m' (g.ev i).m) = q := ⟨_, rfl⟩
        have HQ := hid_of hq
        clear hq y1
        go_cut [58] (fun v58 wy => v58 = .bool q ∧ Hid (Below wx.heap.size wx wy))
        case first => as_aux_lemma =>
          have p0 : wx.cell? ⟨zx, 0, none⟩ = some (.int .i64 (g.ev i).t) := HZ.out.cell rfl
          have p1 : wx.cell? ⟨zx, 1, none⟩ = some (.int .i64 (g.ev i).k) := HZ.out.cell rfl
          have p4 : wx.cell? ⟨zx, 4, none⟩ = some (.int .i64 (g.ev i).m) := HZ.out.cell rfl
          have hlz : zx < wx.heap.size := HZ.out.lt
          generalize (g.ev i).t = et at *
          generalize (g.ev i).k = ek at *
          generalize (g.ev i).m = em at *
          have hBd : Below wx.heap.size wx wx.drew := (Below.refl _ _).drew
          have st : ∀ W, Below wx.heap.size wx W → W.cell? ⟨zx, 0, none⟩ = some (.int .i64 et) ∧ W.cell? ⟨zx, 1, none⟩ = some (.int .i64 ek) ∧ W.cell? ⟨zx, 4, none⟩ = some (.int .i64 em) ∧ W.cell? ⟨mss, mo + i, none⟩ = some (.int .i64 m') := fun W hW => ⟨(hW.cell (p := ⟨zx, 0, none⟩) hlz).trans p0, (hW.cell (p := ⟨zx, 1, none⟩) hlz).trans p1, (hW.cell (p := ⟨zx, 4, none⟩) hlz).trans p4, (hW.cell (p := ⟨mss, mo + i, none⟩) hmx).trans mx⟩
          have HST := hid_of st
          clear st p0 p1 p4 mx
          by_cases ht : et < 0
          · have qt : decide (et < 0) = true := by simpa using ht
            obtain rfl : q = true := by rw [← HQ.out, qt]; rfl
            refine wp_region_held_drew (S := fun W => W.cell? ⟨zx, 0, none⟩ = some (.int .i64 et) ∧ W.cell? ⟨zx, 1, none⟩ = some (.int .i64 ek) ∧ W.cell? ⟨zx, 4, none⟩ = some (.int .i64 em) ∧ W.cell? ⟨mss, mo + i, none⟩ = some (.int .i64 m')) (by kernel_rfl) (HST.out _ hBd) (fun hHeld => ?_)
            generalize wx.drew = wd at *
            refine tk 0 rfl ?_; simp only [zz]
            refine tk 1 rfl ?_; simp only [zz]
            refine tk 2 rfl ?_; simp only [zz]
            refine tk 3 rfl ?_; simp only [zz]
            refine tu 4 rfl ?_; simp only [zz]
            refine tu 5 rfl ?_; simp only [zz]
            refine tu 6 rfl ?_; simp only [zz]
            refine tu 7 rfl ?_; simp only [zz]
            refine tu 8 rfl ?_; simp only [zz]
            refine tu 9 rfl ?_; simp only [zz]
            refine tu 10 rfl ?_; simp only [zz]
            refine tu 11 rfl ?_; simp only [zz]
            refine tu 12 rfl ?_; simp only [zz]
            refine tu 13 rfl ?_; simp only [zz]
            refine tk 14 rfl ?_; simp only [zz]
            refine wpAnyH_done (by kernel_rfl) ?_ _
            clear hHeld
            go_wp2_with fail
            go_meet
            exact ⟨rfl, hBd⟩
          · have qt : decide (et < 0) = false := by simpa using ht
            obtain ⟨r, hr⟩ : ∃ r, wkB ek m' em = r := ⟨_, rfl⟩
            obtain rfl : q = !r := by rw [← HQ.out, qt, hr]; rfl
            refine wp_region_held_drew (S := fun W => W.cell? ⟨zx, 0, none⟩ = some (.int .i64 et) ∧ W.cell? ⟨zx, 1, none⟩ = some (.int .i64 ek) ∧ W.cell? ⟨zx, 4, none⟩ = some (.int .i64 em) ∧ W.cell? ⟨mss, mo + i, none⟩ = some (.int .i64 m')) (by kernel_rfl) (HST.out _ hBd) (fun hHeld => ?_)
            generalize wx.drew = wd at *
            refine tk 0 rfl ?_; simp only [zz]
            refine tk 1 rfl ?_; simp only [zz]
            refine tk 2 rfl ?_; simp only [zz]
            refine tk 3 rfl ?_; simp only [zz]
            refine tk 4 rfl ?_; simp only [zz]
            refine tk 5 rfl ?_; simp only [zz]
            refine tk 6 rfl ?_; simp only [zz]
            refine tk 7 rfl ?_; simp only [zz]
            refine tk 8 rfl ?_; simp only [zz]
            refine tk 9 rfl ?_; simp only [zz]
            refine tk 10 rfl ?_; simp only [zz]
            refine tk 11 rfl ?_; simp only [zz]
            refine wpAnyH_ready (rs := [12]) (by kernel_rfl) (by simp) ?_
            refine rdy rfl (fun K hK => ?_) AllReadyH.nil
            simp only [z1, z2, z3]
            go_simp
            have DW := l10weaker_calls ek m' em wd
            rw [hr] at DW
            refine DW.mono ?_
            rintro e we ⟨rfl, hBe⟩
            have hBf : Below wx.heap.size wx we := below_step hBd hBd.size hBe
            clear hHeld DW hr
            refine hK.out _ _ (HST.out _ hBf) (fun hHeld => ?_)
            clear hK K
            try simp only [zz]
            refine tk 13 rfl ?_; simp only [zz]
            refine tk 14 rfl ?_; simp only [zz]
            refine wpAnyH_done (by kernel_rfl) ?_ _
            clear hHeld
            go_wp2_with fail
            go_meet
            exact ⟨rfl, hBf⟩
        case rest =>
        obtain ⟨rfl, HBc⟩ := hcut
        generalize hwq : wc = wy at *
        clear hwq
        have HBy : Hid (Below wa.heap.size wa wy) := below_step HBx.out HBx.out.size HBc.out
        have HZy := hid_of (HZ.out.of_below HBc.out)
        have my := (HBc.out.cell (p := ⟨mss, mo + i, none⟩) hmx).trans mx
        clear HBx HBc HZ mx
        cases q
        · have hwk : wkB (g.ev i).k m' (g.ev i).m = true := by
            have hh := Bool.or_eq_false_iff.1 HQ.out
            cases e : wkB (g.ev i).k m' (g.ev i).m
            · rw [e] at hh; cases hh.2
            · rfl
          have HWK := hid_of hwk
          have k4 := HZy.out.cell (j := 4) (v := .int .i64 (g.ev i).m) rfl
          have f4 := HZy.out.frozen 4
          clear hwk HQ
          go_upto_region 9 with fail
          have HZ2 : Hid (Blk (wy.setCell ⟨zx, 4, none⟩ (.int .i64 m')) zx 31 (evC { g.ev i with m := m' })) := HZy.out.set 4 _
          have HBs : Hid (Below wa.heap.size wa (wy.setCell ⟨zx, 4, none⟩ (.int .i64 m'))) := HBy.out.setCell hzx2.out _
          clear k4 f4 my HZy HBy
          generalize wy.setCell ⟨zx, 4, none⟩ (.int .i64 m') = ws at *
          have HLs := hid_of (HL.out.below HBs.out)
          have HB6 : Hid (Below W0.heap.size W0 ws) := below_step HB.out HB.out.size HBs.out
          clear HBs HL HB HE
          have HUG := hid_of HLs.out.blk
          have HEQ : Hid (GrV.val ⟨.slice (some ⟨es, 0, none⟩) g.evs.length c1, .slice q2 g.rf.length c2, .slice q3 g.co.length c3, .slice q4 g.rmw.length c4, .slice q5 g.addr.length c5, .slice q6 g.dat.length c6, .slice q7 g.ctrl.length c7⟩ h = .agg #[.int .i64 g.cells, .slice (some ⟨es, 0, none⟩) g.evs.length c1, .slice q2 g.rf.length c2, .slice q3 g.co.length c3, .slice q4 g.rmw.length c4, .slice q5 g.addr.length c5, .slice q6 g.dat.length c6, .slice q7 g.ctrl.length c7]) := by rw [Hid]; unfold GrV.val; rw [HLs.out.wk.cells]
          have D2 := r8Check_calls ⟨.slice (some ⟨es, 0, none⟩) g.evs.length c1, .slice q2 g.rf.length c2, .slice q3 g.co.length c3, .slice q4 g.rmw.length c4, .slice q5 g.addr.length c5, .slice q6 g.dat.length c6, .slice q7 g.ctrl.length c7⟩ h false ws (HLs.out.own.gr (grB_wk HLs.out.wk HGB.out) (by rw [HLs.out.wk.len]; exact hlen))
          rw [HEQ.out] at D2
          obtain ⟨x2, hx2⟩ : ∃ x, (chk h false).1 = x := ⟨_, rfl⟩
          obtain ⟨y2, hy2⟩ : ∃ x, (chk h false).2 = x := ⟨_, rfl⟩
          rw [hx2, hy2] at D2
          have HD2 := hid_of D2
          clear D2 hx2 hy2
          go_wp2_with (first | refine wpList_load_row rfl 27 _ rfl hb rfl 27 #[.int .i64 g.cells, .slice (some ⟨es, 0, none⟩) g.evs.length c1, .slice q2 g.rf.length c2, .slice q3 g.co.length c3, .slice q4 g.rmw.length c4, .slice q5 g.addr.length c5, .slice q6 g.dat.length c6, .slice q7 g.ctrl.length c7] (0, 0) _ HUG.out Tryz.underlying27 rfl (by kernel_rfl) ?_)
          refine HD2.out.mono ?_
          rintro e w5 ⟨rfl, hB5⟩
          have HL5 := hid_of (HLs.out.below hB5)
          have HZ5 := hid_of (HZ2.out.of_below hB5)
          have HB7 : Hid (Below W0.heap.size W0 w5) := below_step HB6.out HB6.out.size hB5
          clear hB5 HD2 HUG HLs HZ2 HB6 HEQ
          by_cases hz2 : x2 = 0
          · subst hz2
            have z1' : w5.cell? ⟨hb, 1, none⟩ = some (.slice (some ⟨es, 0, none⟩) g.evs.length c1) := HL5.out.blk.cell rfl
            have hOe := HL5.out.own.ev
            dsimp only at hOe
            rw [← HWL.out] at hOe
            have hth := there_of hOe (i := i) hi2
            have HTH := hid_of hth
            clear hOe hth
            go_wp2_with (first | refine wpList_load_row rfl 31 _ rfl zx rfl 31 (evC { g.ev i with m := m' }) (0, 0) _ HZ5.out Tryz.underlying31 rfl (by kernel_rfl) ?_ | (refine wpList_store_mid rfl 31 _ _ rfl es (i * 5) (evC { g.ev i with m := m' }) rfl rfl HTH.out (by kernel_rfl) (by kernel_rfl) ?_; generalize hw6 : w5.setCells es (i * 5) (evC { g.ev i with m := m' }).toList = w6; have HW6 := hid_of hw6; clear hw6))
            go_roundg (g.evs.length - (i + 1))
            case measure => have := HIF.out; omega
            case rel =>
              rw [← HW6.out]
              have hne : hb ≠ es := by
                intro e
                subst e
                obtain ⟨cur, hc⟩ := zk_blk HL5.out.own.ev (g := hb) rfl
                exact blk_ne2 hc HL5.out.blk (by decide) rfl
              have hes : base ≤ es := by
                rcases HL5.out.own.ev.2 with ⟨k, _⟩ | ⟨g2, cap, cur, k, hb2, _⟩
                · cases (Value.slice.inj k).1
                · have := Option.some.inj (Value.slice.inj k).1
                  injection this with e4 _
                  omega
              have hev2 : ({ h.ev i with m := m' } : Ev) = { g.ev i with m := m' } := by rw [HEV.out]
              have hown := HL5.out.own.set (es := es) (cap := c1) (by rw [HWL.out]) hi2 { h.ev i with m := m' }
              rw [hev2] at hown
              refine ⟨i + 1, setEv h i { g.ev i with m := m' }, by go_num, by omega, by have := HIF.out; rw [Hid]; omega, ⟨?_, fun j h1 h2 => ?_, hown, ?_⟩, ?_⟩
              · have := wk_set HL5.out.wk hlt HEV.out (m := m') HWK.out
                rw [hev2] at this
                exact this
              · rw [setEv_at, if_neg (by omega)]
                exact HL5.out.rest j (by omega) h2
              · exact (cells_apart _ _ _ hne).trans HL5.out.blk
              · have hle : W0.heap.size ≤ es := Nat.le_trans hbs.out hes
                exact ((((HB7.out.setCell (p := ⟨es, i * 5, none⟩) hle _).setCell (p := ⟨es, i * 5 + 1, none⟩) hle _).setCell (p := ⟨es, i * 5 + 1 + 1, none⟩) hle _).setCell (p := ⟨es, i * 5 + 1 + 1 + 1, none⟩) hle _).setCell (p := ⟨es, i * 5 + 1 + 1 + 1 + 1, none⟩) hle _
          · have qx : (x2 == 0) = false := by simpa using hz2
            have HL6 := hid_of HL5.out.next
            clear HL5
            go_wp2_with fail
            go_roundg (g.evs.length - (i + 1))
            case measure => have := HIF.out; omega
            case rel => exact ⟨i + 1, h, by go_num, by omega, by have := HIF.out; rw [Hid]; omega, HL6.out, HB7.out⟩
        · have HLy := hid_of (HL.out.below HBy.out).next
          have HB5 : Hid (Below W0.heap.size W0 wy) := below_step HB.out HB.out.size HBy.out
          go_wp2_with fail
          go_roundg (g.evs.length - (i + 1))
          case measure => have := HIF.out; omega
          case rel => exact ⟨i + 1, h, by go_num, by omega, by have := HIF.out; rw [Hid]; omega, HLy.out, HB5.out⟩
      · have M1 : decide (((i : Nat) : Int) < ((ms.length : Nat) : Int)) = false := by simp; omega
        go_upto_region 12 with fail
        clear y1
        have HGR : Hid (GrR wa ⟨.slice q1 g.evs.length c1, .slice q2 g.rf.length c2, .slice q3 g.co.length c3, .slice q4 g.rmw.length c4, .slice q5 g.addr.length c5, .slice q6 g.dat.length c6, .slice q7 g.ctrl.length c7⟩ h) := HL.out.own.gr (grB_wk HL.out.wk HGB.out) (by rw [HL.out.wk.len]; exact hlen)
        have HUG := hid_of HL.out.blk
        have HEQ : Hid (GrV.val ⟨.slice q1 g.evs.length c1, .slice q2 g.rf.length c2, .slice q3 g.co.length c3, .slice q4 g.rmw.length c4, .slice q5 g.addr.length c5, .slice q6 g.dat.length c6, .slice q7 g.ctrl.length c7⟩ h = .agg #[.int .i64 g.cells, .slice q1 g.evs.length c1, .slice q2 g.rf.length c2, .slice q3 g.co.length c3, .slice q4 g.rmw.length c4, .slice q5 g.addr.length c5, .slice q6 g.dat.length c6, .slice q7 g.ctrl.length c7]) := by rw [Hid]; unfold GrV.val; rw [HL.out.wk.cells]
        have D1 := rcCheck_calls ⟨.slice q1 g.evs.length c1, .slice q2 g.rf.length c2, .slice q3 g.co.length c3, .slice q4 g.rmw.length c4, .slice q5 g.addr.length c5, .slice q6 g.dat.length c6, .slice q7 g.ctrl.length c7⟩ h wa HGR.out (HF.out.step HB.out) (HT.out.step' HB.out)
        rw [HEQ.out] at D1
        have HD1 := hid_of D1
        clear D1
        go_wp2_with (first | refine wpList_load_row rfl 27 _ rfl hb rfl 27 #[.int .i64 g.cells, .slice q1 g.evs.length c1, .slice q2 g.rf.length c2, .slice q3 g.co.length c3, .slice q4 g.rmw.length c4, .slice q5 g.addr.length c5, .slice q6 g.dat.length c6, .slice q7 g.ctrl.length c7] (0, 0) _ HUG.out Tryz.underlying27 rfl (by kernel_rfl) ?_)
        refine HD1.out.mono ?_
        rintro e w4 ⟨bx, vb, lb, fr, rfl, hansh, hownh, hB4⟩
        obtain ⟨pb, cb, rfl⟩ := owns_len hownh
        have HB4 : Hid (Below W0.heap.size W0 w4) := below_step HB.out HB.out.size hB4
        have HUG4 := hid_of (HUG.out.of_below hB4)
        have HGR4 := hid_of (HGR.out.below hB4)
        have HAH := hid_of hansh
        clear hansh hownh hB4 HD1 HUG HGR
        rcases HANS.out with ⟨hc0, rfl, rfl, rfl⟩ | ⟨hc0, rfl, hok⟩
        · go_wp2_with fail
          refine (l10lives_calls w4 (HF.out.step HB4.out) (HT.out.step' HB4.out)).mono ?_
          rintro e w5 ⟨rfl, hB5⟩
          go_wp2_with fail
          go_ret
          exact ⟨rfl, below_step HB0.out HB0.out.size (below_step HB4.out HB4.out.size hB5)⟩
        · have HOK := hid_of hok
          have hn := wf_len (show wfB g = true by unfold wfB; rw [hc0]; rfl)
          clear hok hc0
          have D2 := r8Check_calls ⟨.slice q1 g.evs.length c1, .slice q2 g.rf.length c2, .slice q3 g.co.length c3, .slice q4 g.rmw.length c4, .slice q5 g.addr.length c5, .slice q6 g.dat.length c6, .slice q7 g.ctrl.length c7⟩ h false w4 HGR4.out
          rw [HEQ.out] at D2
          obtain ⟨x2, hx2⟩ : ∃ x, (chk h false).1 = x := ⟨_, rfl⟩
          obtain ⟨y2, hy2⟩ : ∃ x, (chk h false).2 = x := ⟨_, rfl⟩
          rw [hx2, hy2] at D2
          have HX2 := hid_of hx2
          have HD2 := hid_of D2
          clear D2 hx2 hy2
          go_wp2_with (first | refine wpList_load_row rfl 27 _ rfl hb rfl 27 #[.int .i64 g.cells, .slice q1 g.evs.length c1, .slice q2 g.rf.length c2, .slice q3 g.co.length c3, .slice q4 g.rmw.length c4, .slice q5 g.addr.length c5, .slice q6 g.dat.length c6, .slice q7 g.ctrl.length c7] (0, 0) _ HUG4.out Tryz.underlying27 rfl (by kernel_rfl) ?_)
          refine HD2.out.mono ?_
          rintro e w5 ⟨rfl, hB5⟩
          have HB5 : Hid (Below W0.heap.size W0 w5) := below_step HB4.out HB4.out.size hB5
          clear hB5 HD2 HUG4 HGR4
          by_cases hz2 : x2 = 0
          · subst hz2
            obtain ⟨rfl, hokh⟩ := ansK HAH.out HX2.out
            by_cases hax : ax = 0
            · subst hax
              have hb0 : bx = 0 := HL.out.wk.ok hn HOK.out hokh
              subst hb0
              clear hokh
              go_wp2_with fail
              refine (l10lives_calls w5 (HF.out.step HB5.out) (HT.out.step' HB5.out)).mono ?_
              rintro e w6 ⟨rfl, hB6⟩
              go_wp2_with fail
              go_ret
              exact ⟨rfl, below_step HB0.out HB0.out.size (below_step HB5.out HB5.out.size hB6)⟩
            · have qa : (ax != 0) = true := by simpa using hax
              clear hokh
              go_wp2_with fail
              refine (l10lives_calls w5 (HF.out.step HB5.out) (HT.out.step' HB5.out)).mono ?_
              rintro e w6 ⟨rfl, hB6⟩
              go_wp2_with fail
              go_ret
              exact ⟨rfl, below_step HB0.out HB0.out.size (below_step HB5.out HB5.out.size hB6)⟩
          · obtain ⟨rfl, rfl, rfl⟩ := ansE HAH.out (by rw [HX2.out]; exact hz2)
            have qx : (x2 != 0) = true := by simpa using hz2
            go_wp2_with fail
            refine (l10lives_calls w5 (HF.out.step HB5.out) (HT.out.step' HB5.out)).mono ?_
            rintro e w6 ⟨rfl, hB6⟩
            go_wp2_with fail
            go_ret
            exact ⟨rfl, below_step HB0.out HB0.out.size (below_step HB5.out HB5.out.size hB6)⟩
    · have I1 : decide (((i : Nat) : Int) < ((g.evs.length : Nat) : Int)) = false := by simp; omega
      go_upto_region 12 with fail
      clear y1
      have HGR : Hid (GrR wa ⟨.slice q1 g.evs.length c1, .slice q2 g.rf.length c2, .slice q3 g.co.length c3, .slice q4 g.rmw.length c4, .slice q5 g.addr.length c5, .slice q6 g.dat.length c6, .slice q7 g.ctrl.length c7⟩ h) := HL.out.own.gr (grB_wk HL.out.wk HGB.out) (by rw [HL.out.wk.len]; exact hlen)
      have HUG := hid_of HL.out.blk
      have HEQ : Hid (GrV.val ⟨.slice q1 g.evs.length c1, .slice q2 g.rf.length c2, .slice q3 g.co.length c3, .slice q4 g.rmw.length c4, .slice q5 g.addr.length c5, .slice q6 g.dat.length c6, .slice q7 g.ctrl.length c7⟩ h = .agg #[.int .i64 g.cells, .slice q1 g.evs.length c1, .slice q2 g.rf.length c2, .slice q3 g.co.length c3, .slice q4 g.rmw.length c4, .slice q5 g.addr.length c5, .slice q6 g.dat.length c6, .slice q7 g.ctrl.length c7]) := by rw [Hid]; unfold GrV.val; rw [HL.out.wk.cells]
      have D1 := rcCheck_calls ⟨.slice q1 g.evs.length c1, .slice q2 g.rf.length c2, .slice q3 g.co.length c3, .slice q4 g.rmw.length c4, .slice q5 g.addr.length c5, .slice q6 g.dat.length c6, .slice q7 g.ctrl.length c7⟩ h wa HGR.out (HF.out.step HB.out) (HT.out.step' HB.out)
      rw [HEQ.out] at D1
      have HD1 := hid_of D1
      clear D1
      go_wp2_with (first | refine wpList_load_row rfl 27 _ rfl hb rfl 27 #[.int .i64 g.cells, .slice q1 g.evs.length c1, .slice q2 g.rf.length c2, .slice q3 g.co.length c3, .slice q4 g.rmw.length c4, .slice q5 g.addr.length c5, .slice q6 g.dat.length c6, .slice q7 g.ctrl.length c7] (0, 0) _ HUG.out Tryz.underlying27 rfl (by kernel_rfl) ?_)
      refine HD1.out.mono ?_
      rintro e w4 ⟨bx, vb, lb, fr, rfl, hansh, hownh, hB4⟩
      obtain ⟨pb, cb, rfl⟩ := owns_len hownh
      have HB4 : Hid (Below W0.heap.size W0 w4) := below_step HB.out HB.out.size hB4
      have HUG4 := hid_of (HUG.out.of_below hB4)
      have HGR4 := hid_of (HGR.out.below hB4)
      have HAH := hid_of hansh
      clear hansh hownh hB4 HD1 HUG HGR
      rcases HANS.out with ⟨hc0, rfl, rfl, rfl⟩ | ⟨hc0, rfl, hok⟩
      · go_wp2_with fail
        refine (l10lives_calls w4 (HF.out.step HB4.out) (HT.out.step' HB4.out)).mono ?_
        rintro e w5 ⟨rfl, hB5⟩
        go_wp2_with fail
        go_ret
        exact ⟨rfl, below_step HB0.out HB0.out.size (below_step HB4.out HB4.out.size hB5)⟩
      · have HOK := hid_of hok
        have hn := wf_len (show wfB g = true by unfold wfB; rw [hc0]; rfl)
        clear hok hc0
        have D2 := r8Check_calls ⟨.slice q1 g.evs.length c1, .slice q2 g.rf.length c2, .slice q3 g.co.length c3, .slice q4 g.rmw.length c4, .slice q5 g.addr.length c5, .slice q6 g.dat.length c6, .slice q7 g.ctrl.length c7⟩ h false w4 HGR4.out
        rw [HEQ.out] at D2
        obtain ⟨x2, hx2⟩ : ∃ x, (chk h false).1 = x := ⟨_, rfl⟩
        obtain ⟨y2, hy2⟩ : ∃ x, (chk h false).2 = x := ⟨_, rfl⟩
        rw [hx2, hy2] at D2
        have HX2 := hid_of hx2
        have HD2 := hid_of D2
        clear D2 hx2 hy2
        go_wp2_with (first | refine wpList_load_row rfl 27 _ rfl hb rfl 27 #[.int .i64 g.cells, .slice q1 g.evs.length c1, .slice q2 g.rf.length c2, .slice q3 g.co.length c3, .slice q4 g.rmw.length c4, .slice q5 g.addr.length c5, .slice q6 g.dat.length c6, .slice q7 g.ctrl.length c7] (0, 0) _ HUG4.out Tryz.underlying27 rfl (by kernel_rfl) ?_)
        refine HD2.out.mono ?_
        rintro e w5 ⟨rfl, hB5⟩
        have HB5 : Hid (Below W0.heap.size W0 w5) := below_step HB4.out HB4.out.size hB5
        clear hB5 HD2 HUG4 HGR4
        by_cases hz2 : x2 = 0
        · subst hz2
          obtain ⟨rfl, hokh⟩ := ansK HAH.out HX2.out
          by_cases hax : ax = 0
          · subst hax
            have hb0 : bx = 0 := HL.out.wk.ok hn HOK.out hokh
            subst hb0
            clear hokh
            go_wp2_with fail
            refine (l10lives_calls w5 (HF.out.step HB5.out) (HT.out.step' HB5.out)).mono ?_
            rintro e w6 ⟨rfl, hB6⟩
            go_wp2_with fail
            go_ret
            exact ⟨rfl, below_step HB0.out HB0.out.size (below_step HB5.out HB5.out.size hB6)⟩
          · have qa : (ax != 0) = true := by simpa using hax
            clear hokh
            go_wp2_with fail
            refine (l10lives_calls w5 (HF.out.step HB5.out) (HT.out.step' HB5.out)).mono ?_
            rintro e w6 ⟨rfl, hB6⟩
            go_wp2_with fail
            go_ret
            exact ⟨rfl, below_step HB0.out HB0.out.size (below_step HB5.out HB5.out.size hB6)⟩
        · obtain ⟨rfl, rfl, rfl⟩ := ansE HAH.out (by rw [HX2.out]; exact hz2)
          have qx : (x2 != 0) = true := by simpa using hz2
          go_wp2_with fail
          refine (l10lives_calls w5 (HF.out.step HB5.out) (HT.out.step' HB5.out)).mono ?_
          rintro e w6 ⟨rfl, hB6⟩
          go_wp2_with fail
          go_ret
          exact ⟨rfl, below_step HB0.out HB0.out.size (below_step HB5.out HB5.out.size hB6)⟩
end Go.Proofs.YtjhhimjnoljojaaGreatDoor
