/- sextantlaw10's whole: the program's seven relations are the document's, reckoned. -/
import Derived.Test.YtlpffpfkapbepaaGreatDoorRcIs
import Derived.Test.YtlpffpfkapbepaaGreatDoorJ38
import Derived.Test.YtlpffpfkapbepaaGreatDoorJ33
namespace Go.Proofs.YtlpffpfkapbepaaGreatDoor
open Go.RowKit Go.Shelf Sx
set_option maxRecDepth 100000
set_option maxHeartbeats 16000000
set_option linter.unusedSimpArgs false
set_option linter.unusedVariables false
set_option maxRecDepth 100000
structure WV where
 t : Nat
 k : Nat
 b : Bool
structure Wm where
 fb : Nat
 db : Nat
 n : Nat
 ks : Nat → Nat
 qs : List (Option Addr × Nat × Nat × List Nat)
def WIs (M : Wm) (x : WV) (v : Value) : Prop :=
 match x.t with
 | 2 => v = .bool x.b
 | 3 => v = pv M.fb
 | 4 => v = pv M.db
 | 5 => v = .pointer (some ⟨M.fb, x.k, none⟩)
 | 6 => v = .pointer (some ⟨M.db, 2 * x.k, none⟩)
 | 7 => v = pv (M.ks x.k)
 | 8 => ∃ q, M.qs[x.k]? = some q ∧ v = rvA ((M.n : Nat) : Int) q
 | _ => True
structure WG (M : Wm) (w : World) : Prop where
 tab : Tab w
 hn : M.n ≤ 256
 hf : Blk w M.fb 45 (fcC M.ks)
 hd : Blk w M.db 54 (rvC ((M.n : Nat) : Int) M.qs).toArray
 hl : M.qs.length = 11
 rel : ∀ i q, i < 7 → M.qs[i]? = some q → ∃ c, IsRel w (M.ks i) c q.2.2.2 ∧ RT w M.n (rvA ((M.n : Nat) : Int) q) q.2.2.2
theorem WG.mono {M : Wm} {w w' : World} (h : WG M w) (hb : Below w.heap.size w w') : WG M w' :=
 ⟨h.tab.step' hb, h.hn, h.hf.of_below hb, h.hd.of_below hb, h.hl, fun i q hi hq => by obtain ⟨c, h1, h2⟩ := h.rel i q hi hq; exact ⟨c, h1.below hb, h2.below hb⟩⟩
def Qu2 : Operand → WV
 | .const (.bool b) => ⟨2, 0, b⟩
 | _ => ⟨0, 0, false⟩
def wvA (σ : Nat → WV) : Operand → WV
 | .tmp d => σ d
 | x => Qu2 x
def Qzu (σ : Nat → WV) : Op → Option WV
 | .fieldAddr ty x f => if ty = 45 ∧ (wvA σ x).t = 3 ∧ f < 7 then some ⟨5, f, false⟩ else if ty = 54 ∧ (wvA σ x).t = 4 ∧ f < 7 then some ⟨6, f, false⟩ else none
 | .load ty x => if ty = 43 ∧ (wvA σ x).t = 5 ∧ (wvA σ x).k < 7 then some ⟨7, (wvA σ x).k, false⟩ else if ty = 52 ∧ (wvA σ x).t = 6 ∧ (wvA σ x).k < 7 then some ⟨8, (wvA σ x).k, false⟩ else none
 | .call ⟨.value (.func f), args, _⟩ => match args.toList with
   | [x, y] => if f = 63 ∧ (wvA σ x).t = 7 ∧ (wvA σ y).t = 8 ∧ (wvA σ x).k = (wvA σ y).k ∧ (wvA σ x).k < 7 then some ⟨2, 0, true⟩ else none
   | _ => none
 | _ => none
section
variable {M : Wm} {w : World} {a : Act} {σ : Nat → WV} {Q : Exit → Act → World → Prop} {x : Operand}
theorem Qt3 (h : ∀ d, x ≠ .tmp d) : WIs M (Qu2 x) (a.eval x) := by
 unfold Qu2
 split
 ·exact rfl
 ·exact trivial
theorem Qmz (h : ∀ d, x = .tmp d → WIs M (σ d) (a.eval (.tmp d))) : WIs M (wvA σ x) (a.eval x) := by
 unfold wvA
 split
 ·exact h _ rfl
 ·rename_i y hy
  exact Qt3 hy
theorem WIs.t {z : WV} {v : Value} {k : Nat} (h : WIs M z v) (ht : z.t = k) : WIs M ⟨k, z.k, z.b⟩ v := by
 rw [← ht]
 exact h
theorem Qxe (b : Nat) (w : World) {f : Nat} (hf : f < 7) : (Instr.fieldAt 45 (pv b) f).run Tryz.prog w = .ok (.pointer (some ⟨b, f, none⟩)) w := by
 match f, hf with
 | 0, _ => exact (show _ = _ by kernel_rfl)
 | 1, _ => exact (show _ = _ by kernel_rfl)
 | 2, _ => exact (show _ = _ by kernel_rfl)
 | 3, _ => exact (show _ = _ by kernel_rfl)
 | 4, _ => exact (show _ = _ by kernel_rfl)
 | 5, _ => exact (show _ = _ by kernel_rfl)
 | 6, _ => exact (show _ = _ by kernel_rfl)
 | n + 7, h => omega
theorem QEk (b : Nat) (w : World) {f : Nat} (hf : f < 7) : (Instr.fieldAt 54 (pv b) f).run Tryz.prog w = .ok (.pointer (some ⟨b, 2 * f, none⟩)) w := by
 match f, hf with
 | 0, _ => exact (show _ = _ by kernel_rfl)
 | 1, _ => exact (show _ = _ by kernel_rfl)
 | 2, _ => exact (show _ = _ by kernel_rfl)
 | 3, _ => exact (show _ = _ by kernel_rfl)
 | 4, _ => exact (show _ = _ by kernel_rfl)
 | 5, _ => exact (show _ = _ by kernel_rfl)
 | 6, _ => exact (show _ = _ by kernel_rfl)
 | n + 7, h => omega
theorem QF4 {b o y z : Nat} {m : Int} {s : Option Addr} (w : World) (c0 : w.cell? ⟨b, o, none⟩ = some (.int .i64 m)) (c1 : w.cell? ⟨b, o + 1, none⟩ = some (.slice s y z)) : (Instr.loadAt 52 (.pointer (some ⟨b, o, none⟩))).run Tryz.prog w = .ok (.agg #[.int .i64 m, .slice s y z]) w := by
 go_simp
theorem Qu3 (ks : Nat → Nat) {k : Nat} (hk : k < 7) : (fcC ks)[k]? = some (pv (ks k)) := by
 match k, hk with
 | 0, _ => rfl
 | 1, _ => rfl
 | 2, _ => rfl
 | 3, _ => rfl
 | 4, _ => rfl
 | 5, _ => rfl
 | 6, _ => rfl
 | n + 7, h => omega
theorem QCr (u v : Value) (w : World) : (callFunc 63 #[u, v]).run Tryz.prog w = .ok (.enter 63 #[u, v]) w := by kernel_rfl
theorem Qu4 {n b c : Nat} {L : List Nat} {v : Value} (w : World) (hn : n ≤ 256) (hr : IsRel w b c L) (hv : RT w n v L) (hT : Tab w) : Calls Tryz.prog 63 #[pv b, v] w fun e w' => e = .returned (.bool true) ∧ Below w.heap.size w w' := by
 obtain ⟨x, y, z, rb, F, rfl, hM, ht⟩ := hv
 exact Qtk (F := fun p q => (gr L p).testBit q) w hr ⟨ht.wf.len, fun p q _ _ => rfl⟩ hn hM (fun p q hp hq => by rw [Bool.eq_iff_iff]; exact ht.same p q hp hq) hT
theorem QEl (hG : WG M w) {o : Oper} {av : WV} (h : Qzu σ o.op = some av) (hx : ∀ d ∈ Qb5 o.op.operands.toList, WIs M (σ d) (a.eval (.tmp d))) : o.wp Tryz.prog a w (fun a' w' => ∃ v, a' = a.put o.dst v ∧ WIs M av v ∧ Below w.heap.size w w') Q := by
 obtain ⟨dst, op, ty, pos, af, gd⟩ := o
 dsimp only at h hx ⊢
 have hB := Below.refl w.heap.size w
 unfold Qzu at h
 split at h
 ·rename_i t x f
  have hi := Qmz (x := x) (fun d e => hx d (Qae.2 (by simp [Op.operands, e])))
  by_cases c1 : t = 45 ∧ (wvA σ x).t = 3 ∧ f < 7
  ·rw [if_pos c1] at h; cases h
   obtain ⟨rfl, c, hf⟩ := c1
   have e : a.eval x = pv M.fb := hi.t c
   exact Qbu (s := Instr.fieldAt 45 (a.eval x) f) rfl (by rw [e]; exact Qxe _ _ hf) ⟨_, rfl, rfl, hB⟩
  rw [if_neg c1] at h
  by_cases c2 : t = 54 ∧ (wvA σ x).t = 4 ∧ f < 7
  ·rw [if_pos c2] at h; cases h
   obtain ⟨rfl, c, hf⟩ := c2
   have e : a.eval x = pv M.db := hi.t c
   exact Qbu (s := Instr.fieldAt 54 (a.eval x) f) rfl (by rw [e]; exact QEk _ _ hf) ⟨_, rfl, rfl, hB⟩
  rw [if_neg c2] at h; cases h
 ·rename_i t x
  have hi := Qmz (x := x) (fun d e => hx d (Qae.2 (by simp [Op.operands, e])))
  by_cases c1 : t = 43 ∧ (wvA σ x).t = 5 ∧ (wvA σ x).k < 7
  ·rw [if_pos c1] at h; cases h
   obtain ⟨rfl, c, hk⟩ := c1
   have e : a.eval x = .pointer (some ⟨M.fb, (wvA σ x).k, none⟩) := hi.t c
   exact Qbu (s := Instr.loadAt 43 (a.eval x)) rfl (by rw [e]; exact Qh _ _ _ _ (hG.hf.cell (Qu3 _ hk))) ⟨_, rfl, rfl, hB⟩
  rw [if_neg c1] at h
  by_cases c2 : t = 52 ∧ (wvA σ x).t = 6 ∧ (wvA σ x).k < 7
  ·rw [if_pos c2] at h; cases h
   obtain ⟨rfl, c, hk⟩ := c2
   have e : a.eval x = .pointer (some ⟨M.db, 2 * (wvA σ x).k, none⟩) := hi.t c
   obtain ⟨q, hq⟩ : ∃ q, M.qs[(wvA σ x).k]? = some q := ⟨_, List.getElem?_eq_getElem (by rw [hG.hl]; omega)⟩
   obtain ⟨h1, h2⟩ := Qwf (m := ((M.n : Nat) : Int)) M.qs (wvA σ x).k q hq
   rw [Nat.mul_comm] at h1 h2
   exact Qbu (v := rvA ((M.n : Nat) : Int) q) (s := Instr.loadAt 52 (a.eval x)) rfl (by rw [e]; exact QF4 _ (hG.hd.cell (by simpa using h1)) (hG.hd.cell (by simpa using h2))) ⟨_, rfl, ⟨q, hq, rfl⟩, hB⟩
  rw [if_neg c2] at h; cases h
 ·rename_i f args tys
  obtain ⟨l⟩ := args
  match l, h, hx with
  | [], h, _ => cases h
  | [x], h, _ => cases h
  | [x, y], h, hx =>
   have h1 := Qmz (x := x) (fun d e => hx d (Qae.2 (by simp [Op.operands, Call.operands, e])))
   have h2 := Qmz (x := y) (fun d e => hx d (Qae.2 (by simp [Op.operands, Call.operands, e])))
   dsimp only at h
   by_cases c : f = 63 ∧ (wvA σ x).t = 7 ∧ (wvA σ y).t = 8 ∧ (wvA σ x).k = (wvA σ y).k ∧ (wvA σ x).k < 7
   ·rw [if_pos c] at h; cases h
    obtain ⟨rfl, c1, c2, c3, c4⟩ := c
    have e1 : a.eval x = pv (M.ks (wvA σ x).k) := h1.t c1
    obtain ⟨q, hq, e2⟩ : ∃ q, M.qs[(wvA σ y).k]? = some q ∧ a.eval y = rvA ((M.n : Nat) : Int) q := h2.t c2
    rw [← c3] at hq
    obtain ⟨cc, r1, r2⟩ := hG.rel _ q c4 hq
    refine Qav (Qco e1 e2 QCr) ((Qu4 w hG.hn r1 r2 hG.tab).mono ?_)
    rintro e w' ⟨rfl, hb⟩
    exact ⟨_, rfl, _, rfl, rfl, hb⟩
   ·rw [if_neg c] at h; cases h
  | x :: y :: z :: l, h, _ => cases h
 ·cases h
end
def wE (M : Wm) : Eng Tryz.prog WV where
 Is _ _ := WIs M
 G := WG M
 isNo x := x.t == 0
 nw _ := false
 isB x := x.t == 2
 bv x := x.b
 con := Qu2
 pk b x y := if x.t = 2 ∧ y.t = 2 then some ⟨2, 0, if b then x.b else y.b⟩ else none
 opR := Qzu
 pre _ _ := none
 mono h _ := h
 gmono := WG.mono
 any := fun {_ _ x _} h => by
  obtain ⟨t, k, b⟩ := x
  have : t = 0 := by simpa using h
  subst this
  exact trivial
 chg _ h := h
 bool := fun {_ _ x v} h hi => (show WIs M x v from hi).t (k := 2) (by simpa using h)
 conOk := Qt3
 pkOk := fun {_ _ b x y z v} h hi => by
  by_cases c : x.t = 2 ∧ y.t = 2
  ·rw [if_pos c] at h; cases h
   cases b
   ·exact (show WIs M y v from hi).t c.2
   ·exact (show WIs M x v from hi).t c.1
  ·rw [if_neg c] at h; cases h
 ok := fun hG _ h _ hx => QEl hG h hx
theorem Qn2 (n : Nat) (ks : Nat → Nat) (qs : List (Option Addr × Nat × Nat × List Nat)) (w : World) (hn : n ≤ 256) (hl : qs.length = 11) (hT : Tab w) (hr : ∀ i q, i < 7 → qs[i]? = some q → ∃ c, IsRel w (ks i) c q.2.2.2 ∧ RT w n (rvA ((n : Nat) : Int) q) q.2.2.2) :
  Calls Tryz.prog 20 #[.agg (fcC ks), .agg (rvC ((n : Nat) : Int) qs).toArray] w fun e w' => e = .returned (.bool true) ∧ Below w.heap.size w w' := by
 match qs, hl, hr with
 | [a, b, c, d, e, f, i, j, k, m, o], hl, hr =>
  have HT := Qa hT
  have HR := Qa hr
  have hB : Below w.heap.size w ((w.alloc (.cells (fcC ks) 45)).alloc (.cells (rvC ((n : Nat) : Int) [a, b, c, d, e, f, i, j, k, m, o]).toArray 54)) := ((Below.refl _ w).alloc (Nat.le_refl _) _).alloc (by simp) _
  have HB := Qa hB
  clear hT hr hl hB
  unfold fcC rvC
  simp only [List.flatMap_cons, List.flatMap_nil, List.cons_append, List.nil_append]
  go_enter Tryz.func20, Tryz.ntmps20
  go_upto_region 1 with fail
  rename_i hK
  refine Eng.reg_ret (E := wE ⟨w.heap.size, w.heap.size + 1, n, ks, [a, b, c, d, e, f, i, j, k, m, o]⟩) (T := 52) (w0 := w) (σ := Qbz (fun _ => ⟨0, 0, false⟩) [(2, ⟨3, 0, false⟩), (3, ⟨4, 0, false⟩)]) (fn := Tryz.f20) (R := fun e w' => e = .returned (.bool true) ∧ Below w.heap.size w w') 4 ⟨2, 0, true⟩ (by as_aux_lemma => kernel_rfl) (by as_aux_lemma => kernel_rfl) (by as_aux_lemma => kernel_rfl) (Qcq (fun _ _ => rfl) _ _ _) (by as_aux_lemma => kernel_rfl) (by as_aux_lemma => kernel_rfl) rfl (fun a w h => hK a w (wp_ret h)) ?_ _ _
   (Qnn (E := wE ⟨w.heap.size, w.heap.size + 1, n, ks, [a, b, c, d, e, f, i, j, k, m, o]⟩) ⟨0, 0, false⟩ [(2, ⟨3, 0, false⟩), (3, ⟨4, 0, false⟩)] rfl rfl HB.out ⟨HT.out.step' HB.out, hn, (Blk.new w _ _).alloc _, Blk.new2 w _ _ _, rfl, fun i q hi hq => by obtain ⟨c, h1, h2⟩ := HR.out i q hi hq; exact ⟨c, h1.below HB.out, h2.below HB.out⟩⟩ (by
    intro p hp
    rcases List.mem_cons.1 hp with rfl | hp
    ·exact ⟨rfl, rfl⟩
    obtain rfl := List.mem_singleton.1 hp
    exact ⟨rfl, rfl⟩) rfl rfl)
  intro N w' v hl hG hv
  have hv : v = .bool true := hv
  exact ⟨by rw [hv], hl⟩
end Go.Proofs.YtlpffpfkapbepaaGreatDoor
