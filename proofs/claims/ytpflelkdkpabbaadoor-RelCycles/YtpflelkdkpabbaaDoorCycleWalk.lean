/- The contract of package rel's cycleFrom. -/
import Derived.Test.YtpflelkdkpabbaaDoorLayersWalk
namespace Go.Proofs.YtpflelkdkpabbaaDoor
open Go.RowKit Go.Shelf Sx
attribute [local go_sem] Oper.semAt_some

/-- What cycleFrom adds, from a point and the layers that are left. -/
def cycF (L : List Nat) : Nat → List Nat → List Nat
  | _, [] => []
  | last, X :: rest => match bitsOf (gr L last &&& X) with
    | [] => cycF L last rest
    | q :: _ => q :: cycF L q rest
/-- The layers from i down to 1. -/
def remL (ly : List Nat) (i : Nat) : List Nat := ((ly.take (i + 1)).drop 1).reverse
theorem remL_zero (ly : List Nat) : remL ly 0 = [] := by simp [remL]
theorem remL_succ {ly : List Nat} {i : Nat} (h : i + 1 < ly.length) : remL ly (i + 1) = gr ly (i + 1) :: remL ly i := by
  unfold remL
  rw [List.take_add_one (i := i + 1), gr_of h]
  rw [List.drop_append_of_le_length (by simp; omega)]
  simp

theorem layers_i (n : Nat) (b c : Nat) (L : List Nat) (start : Nat) (w : World) (h : IsRel w b c L) (hT : Tab w) (hst : start < L.length) :
    CallsIn Fence.wide n Tryd.prog 83 #[pv b, .int .i64 start] w fun e w' => ∃ v out, e = .returned v ∧ w'.ownsRow w.heap.size 71 4 v out.length (flatL out) ∧ LayOK L (invL L) start 0 (setB 0 start true) out ∧ out.length ≤ 256 ∧ Below w.heap.size w w' := callsIn_wide.2 (layers_calls b c L start w h hT hst)
theorem Tryd.infoint : (Tryd.prog.info? 3).map (fun i => (i.zero, i.size, i.bytes)) = some (some (.int .i64 0), 1, 8) := by kernel_rfl
def encI (l : List Nat) : List Value := l.map (fun x => .int .i64 ((x : Nat) : Int))

theorem encI_snoc (l : List Nat) (x : Nat) : encI (l ++ [x]) = encI l ++ [.int .i64 ((x : Nat) : Int)] := by simp [encI]
theorem points_c (R : Nat) (w : World) :
    Calls Tryd.prog 42 #[rv R] w fun e w' => e = .returned (.func (.func 77) #[] #[.pointer (some ⟨w.heap.size, 0, none⟩)]) ∧ w' = w.alloc (.cells (rcs R) 71) := (callsIn_wide (n := 1)).1 (points_in Fence.wide 1 trivial rfl R w)
/-- The rows of a list, in a block that may be longer. -/
structure RowsIn (w : World) (g : Nat) (ly : List Nat) : Prop where
  ex : ∃ cur, Blk w g 71 cur ∧ cur.toList.take (ly.length * 4) = flatL ly
theorem RowsIn.lt {w : World} {g : Nat} {ly : List Nat} (h : RowsIn w g ly) : g < w.heap.size := by obtain ⟨cur, hb, _⟩ := h.ex; exact hb.lt
theorem RowsIn.below {w w' : World} {g n : Nat} {ly : List Nat} (h : RowsIn w g ly) (hb : Below n w w') (hn : g < n) : RowsIn w' g ly := by
  obtain ⟨cur, hk, e⟩ := h.ex
  exact ⟨cur, hk.below hb hn, e⟩
theorem RowsIn.grown {w w' : World} {g : Nat} {ly : List Nat} {row : Option Nat} (h : RowsIn w g ly) (hg : w.grownBy w' row) (hne : some g ≠ row) : RowsIn w' g ly := by
  obtain ⟨cur, hk, e⟩ := h.ex
  exact ⟨cur, hk.grown hg hne, e⟩
theorem RowsIn.other {w : World} {g : Nat} {ly : List Nat} (h : RowsIn w g ly) {a : Addr} (hne : g ≠ a.block) (v : Value) : RowsIn (w.setCell a v) g ly := by
  obtain ⟨cur, hk, e⟩ := h.ex
  exact ⟨cur, hk.setOther hne v, e⟩
theorem RowsIn.cells {w : World} {g : Nat} {ly : List Nat} (h : RowsIn w g ly) {i : Nat} (hi : i < ly.length) :
    w.cell? ⟨g, i * 4, none⟩ = some (.int .u64 ((wd (gr ly i) 0 : Nat) : Int)) ∧ w.cell? ⟨g, i * 4 + 1, none⟩ = some (.int .u64 ((wd (gr ly i) 1 : Nat) : Int)) ∧ w.cell? ⟨g, i * 4 + 2, none⟩ = some (.int .u64 ((wd (gr ly i) 2 : Nat) : Int)) ∧ w.cell? ⟨g, i * 4 + 3, none⟩ = some (.int .u64 ((wd (gr ly i) 3 : Nat) : Int)) := by
  obtain ⟨cur, hk, e⟩ := h.ex
  have key : ∀ j, j < 4 → cur[i * 4 + j]? = some (.int .u64 ((wd (gr ly i) j : Nat) : Int)) := by
    intro j hj
    have h1 := flat_at' ly i j (gr ly i) hj (gr_of hi)
    rw [show ly.flatMap (fun R => (rcs R).toList) = flatL ly from rfl, ← e, List.getElem?_take_of_lt (by omega), Nat.mul_comm 4 i] at h1
    simpa using h1
  exact ⟨hk.cell (key 0 (by omega)), hk.cell (key 1 (by omega)), hk.cell (key 2 (by omega)), hk.cell (key 3 (by omega))⟩
theorem owns_rows {w : World} {base g cap n : Nat} {ly : List Nat} (h : w.ownsRow base 71 4 (.slice (some ⟨g, 0, none⟩) n cap) n (flatL ly)) (hn : ly.length = n) : RowsIn w g ly ∧ base ≤ g := by
  rcases h.2 with ⟨e, _⟩ | ⟨g', cap', cur, e, h4, h5, _, _, _, h6⟩
  · cases e
  · cases e
    rw [← hn] at h6
    exact ⟨⟨cur, h5, h6⟩, h4⟩
/-- The last number of a slice of one's own. -/
theorem owns_last {w : World} {base : Nat} {v : Value} {o : List Nat} {x : Nat} (h : w.ownsRow base 3 1 v (o.length + 1) (encI (o ++ [x]))) : ∃ og cap, v = .slice (some ⟨og, 0, none⟩) (o.length + 1) cap ∧ base ≤ og ∧ og < w.heap.size ∧ w.cell? ⟨og, o.length, none⟩ = some (.int .i64 ((x : Nat) : Int)) := by
  rcases h.2 with ⟨_, e⟩ | ⟨g, cap, cur, rfl, h4, h5, _, _, _, h6⟩
  · omega
  · refine ⟨g, cap, rfl, h4, (Array.getElem?_eq_some_iff.1 h5).1, ?_⟩
    have hk : Blk w g 3 cur := h5
    apply hk.cell
    have : (encI (o ++ [x]))[o.length]? = some (.int .i64 ((x : Nat) : Int)) := by simp [encI]
    rw [← h6, List.getElem?_take_of_lt (by omega)] at this
    simpa using this

set_option maxRecDepth 100000 in
set_option maxHeartbeats 8000000 in
theorem cycleFrom_in (b c : Nat) (L : List Nat) (start : Nat) (w : World) (h : IsRel w b c L) (hT : Tab w) (hst : start < L.length) :
    CallsIn Fence.wide 6 Tryd.prog 76 #[pv b, .int .i64 start] w fun e w' => ∃ v ly, e = .returned v ∧ LayOK L (invL L) start 0 (setB 0 start true) ly ∧ w'.ownsRow w.heap.size 3 1 v (start :: cycF L start (remL ly (ly.length - 1))).length (encI (start :: cycF L start (remL ly (ly.length - 1)))) ∧ Below w.heap.size w w' := by
  have hl := h.len
  refine callsIn_of_wp_marks Tryd.func76 rfl trivial ?_ rfl
  simp only [Tryd.ntmps76, List.size_toArray, List.length_cons, List.length_nil, Nat.reduceAdd, Nat.reduceSub, Array.replicate_succ, Array.replicate_zero, List.push_toArray, List.append_toArray, List.nil_append, List.cons_append]
  gi_wp2_with fail
  refine ⟨trivial, ?_⟩
  refine (layers_i _ b c L start _ ((h.alloc _).alloc _) ((hT.alloc _).alloc _) hst).mono ?_
  rintro e w1 ⟨v, ly, rfl, hown, hly, hlen, hB1⟩
  obtain ⟨m, hm⟩ : ∃ m, ly.length = m + 1 := by
    cases ly with
    | nil => exact absurd hly (by simp [LayOK, setB])
    | cons x r => exact ⟨r.length, rfl⟩
  rw [hm] at hown
  obtain ⟨g, cap, rfl⟩ := ownsRow_succ hown
  have hszz : ((w.alloc (Obj.cells #[Value.int IntKind.i64 ↑start] 3)).alloc (Obj.cells #[Value.slice (some ⟨w.heap.size, 0, none⟩) 1 1] 61)).heap.size = w.heap.size + 2 := by simp
  obtain ⟨hrows, hgb⟩ := owns_rows hown hm
  rw [hszz] at hgb
  have hBw1 : Below w.heap.size w w1 := (((Below.refl _ w).alloc (Nat.le_refl _) _).alloc (by simp) _).trans (hB1.mono (by rw [hszz]; omega))
  have hbx1 : Boxed w1 (w.heap.size + 1) 61 (.slice (some ⟨w.heap.size, 0, none⟩) 1 1) := (Blk.new2 w _ _ _).of_below hB1
  have how1 : w1.ownsRow w.heap.size 3 1 (.slice (some ⟨w.heap.size, 0, none⟩) 1 1) 1 (encI [start]) := by
    refine ⟨rfl, .inr ⟨w.heap.size, 1, #[.int .i64 ((start : Nat) : Int)], rfl, Nat.le_refl _, ((Blk.new w _ _).alloc _).of_below hB1, Nat.le_refl _, by unfold maxLen; omega, rfl, rfl⟩⟩
  obtain ⟨i0, hi, hz0, hz1, hz2⟩ := info_parts Tryd.infoint
  have Hm : Hid (ly.length = m + 1) := hm
  have hm256 : m + 1 ≤ 256 := by omega
  clear hm hlen
  gi_wp2_with fail
  clear hown hB1 hszz
  refine wpIn_loop (fun a wr => ∃ (i : Nat) (Ds : List Nat) (o : List Nat) (lst : Nat) (u8 u17 u18 u19 u20 u21 u22 u23 u24 u25 u26 u27 u28 u29 u30 u31 u32 u33 u34 u35 u36 u37 u38 u39 u40 u41 u42 u43 : Value), (i ≤ m ∧ lst < L.length ∧ o.length + i ≤ m ∧ Hid (start :: cycF L start (remL ly m) = (o ++ [lst]) ++ cycF L lst (remL ly i)) ∧ (∃ v, Boxed wr (w.heap.size + 1) 61 v ∧ wr.ownsRow w.heap.size 3 1 v (o.length + 1) (encI (o ++ [lst]))) ∧ RowsIn wr g ly ∧ Below w.heap.size w wr ∧ Marks w.heap.size wr Ds) ∧ a = { tmps := #[pv b, .int .i64 start, undef, undef, .slice none 0 0, pv (w.heap.size + 1), .slice (some ⟨g, 0, none⟩) (m + 1) cap, .int .i64 i, u8, .int .i64 start, .slice (some ⟨w.heap.size, 0, none⟩) 1 1, pv b, .int .i64 start, .slice (some ⟨g, 0, none⟩) (m + 1) cap, .slice (some ⟨g, 0, none⟩) (m + 1) cap, .int .i64 (m + 1), .int .i64 m, u17, u18, u19, u20, u21, u22, u23, u24, u25, u26, u27, u28, u29, u30, u31, u32, u33, u34, u35, u36, u37, u38, u39, u40, u41, u42, u43, undef], defers := Ds.map mark })
    (fun a _ => (intOf (a.tmps.getD 7 undef)).toNat) ?start ?round
  case start =>
    exact ⟨m, [], [], start, _, _, _, _, _, _, _, _, _, _, _, _, _, _, _, _, _, _, _, _, _, _, _, _, _, _, _, _, ⟨by omega, hst, by simp, rfl, ⟨_, hbx1, how1⟩, hrows, hBw1, Marks.nil _ _⟩, rfl⟩
  case round =>
    clear hbx1 how1 hrows
    rintro _ wr ⟨i, Ds, o, lst, u8, u17, u18, u19, u20, u21, u22, u23, u24, u25, u26, u27, u28, u29, u30, u31, u32, u33, u34, u35, u36, u37, u38, u39, u40, u41, u42, u43, ⟨him, hlst, hol, HC, ⟨v, hv, hrow⟩, hrw, hB, hD⟩, rfl⟩
    obtain ⟨og, ocap, rfl, hog, hogl, hlc⟩ := owns_last hrow
    by_cases hpos : 0 < i
    · have hro := h.below hB
      obtain ⟨y, ⟨y0, y1, y2, y3⟩, _, q1, q2⟩ := hro.slots (gr_of hlst)
      obtain ⟨x0, x1, x2, x3⟩ := hrw.cells (i := i) (by rw [Hm.out]; omega)
      have k0 := hv.cell
      have q3 := hv.lt
      have q4 := hrw.lt
      have hd : decide ((0 : Int) < (i : Int)) = true := decide_eq_true (by omega)
      have him2 : i < m + 1 := by omega
      have hi1 : (0 : Int) ≤ (i : Int) := by omega
      have hi2 : (i : Int) < (m : Int) + 1 := by omega
      have ho1 : (0 : Int) ≤ (o.length : Int) := by omega
      have ho2 : (o.length : Int) ≤ 256 := by omega
      have ho3 : (o.length : Int) < (o.length : Int) + 1 := by omega
      have hw2 : IntKind.i64.wrap (o.length : Int) = (o.length : Int) := by rw [IntKind.wrap_i64]; omega
      have ho4 : ¬ ((o.length : Int) + 1 ≤ (o.length : Int)) := by omega
      have ho5 : ¬ ((o.length : Int) < 0) := by omega
      have ho6 : o.length < o.length + 1 := by omega
      gi_wp2_with fail
      refine wpIn_wide.2 ?_
      go_region_held3 (fun w' => w'.cell? ⟨b, 0, none⟩ = some (.slice (some ⟨c, 0, none⟩) L.length L.length) ∧ w'.cell? ⟨w.heap.size + 1, 0, none⟩ = some (.slice (some ⟨og, 0, none⟩) (o.length + 1) ocap) ∧ w'.cell? ⟨og, o.length, none⟩ = some (.int .i64 ((lst : Nat) : Int)) ∧ w'.cell? ⟨c, lst * 4, none⟩ = some (.int .u64 ((wd (gr L lst) 0 : Nat) : Int)) ∧ w'.cell? ⟨c, lst * 4 + 1, none⟩ = some (.int .u64 ((wd (gr L lst) 1 : Nat) : Int)) ∧ w'.cell? ⟨c, lst * 4 + 2, none⟩ = some (.int .u64 ((wd (gr L lst) 2 : Nat) : Int)) ∧ w'.cell? ⟨c, lst * 4 + 3, none⟩ = some (.int .u64 ((wd (gr L lst) 3 : Nat) : Int)) ∧ w'.cell? ⟨g, i * 4, none⟩ = some (.int .u64 ((wd (gr ly i) 0 : Nat) : Int)) ∧ w'.cell? ⟨g, i * 4 + 1, none⟩ = some (.int .u64 ((wd (gr ly i) 1 : Nat) : Int)) ∧ w'.cell? ⟨g, i * 4 + 2, none⟩ = some (.int .u64 ((wd (gr ly i) 2 : Nat) : Int)) ∧ w'.cell? ⟨g, i * 4 + 3, none⟩ = some (.int .u64 ((wd (gr ly i) 3 : Nat) : Int))) (go_keep)
        (first | (go_at_call 48; refine (meet_calls (gr L lst) (gr ly i) _).mono ?_; rintro e w2 ⟨rfl, hB2⟩; have hB2' := below_of_drew' hB2; clear y y0 y1 y2 y3 x0 x1 x2 x3 k0 hlc; have hv2 : Boxed w2 (w.heap.size + 1) 61 (.slice (some ⟨og, 0, none⟩) (o.length + 1) ocap) := (hB2'.block _ q3).trans hv; have hrow2 := owns_step hrow hB2'; obtain ⟨og', ocap', eog, _, hogl2, hlc⟩ := owns_last hrow2; cases eog; obtain ⟨y, ⟨y0, y1, y2, y3⟩, _, q5, q6⟩ := (hro.below hB2').slots (gr_of hlst); have hrw2 := hrw.below hB2' q4; obtain ⟨x0, x1, x2, x3⟩ := hrw2.cells (i := i) (by rw [Hm.out]; omega); have k0 := hv2.cell; have q7 := hv2.lt; have q8 := hrw2.lt) | (go_at_call 42; refine (points_c (gr L lst &&& gr ly i) _).mono ?_; rintro e w' ⟨rfl, rfl⟩))
      have hBw2 : Below w.heap.size w w2 := below_step hB hB.size hB2'
      have hT2 := hT.step hBw2
      have hD2 := hD.keeps (keeps_of_below hB2')
      have hDlt := hD2.lt
      have hs2 := hBw2.size
      have htp := hT.pos
      have HB : Hid (∃ j, i = j + 1 ∧ cycF L lst (remL ly i) = (match bitsOf (gr L lst &&& gr ly i) with | [] => cycF L lst (remL ly j) | q :: _ => q :: cycF L q (remL ly j))) := by
        obtain ⟨j, rfl⟩ : ∃ j, i = j + 1 := ⟨i - 1, by omega⟩
        refine ⟨j, rfl, ?_⟩
        rw [remL_succ (by rw [Hm.out]; omega)]
        rfl
      have HML : Hid (∀ q, q ∈ bitsOf (gr L lst &&& gr ly i) → q < L.length) := by
        intro q hq
        have h1 := (mem_bitsOf.1 hq).2
        apply Nat.lt_of_not_le
        intro hle
        rw [testBit_of_lt (and_lt (hro.gr_lt lst)) hle] at h1
        cases h1
      generalize hMM : gr L lst &&& gr ly i = M at *
      clear y y0 y1 y2 y3 x0 x1 x2 x3 k0 hlc hi1 hi2 ho1 ho2 ho3 ho4 ho5 ho6 hw2 hMM hv hrow hrw hB hD hB2 hB2' hro q1 q2 q3 q4 q5 q6
      gi_wp2
      refine wpIn_rangeFunc_ownF rfl (by omega) (gf := 77) (lb := #[.pointer (some ⟨w2.heap.size, 0, none⟩)]) rfl trivial (enters_of Tryd.func77 (by kernel_rfl) rfl)
        (points_stops M w2.heap.size (6 - 1) (by omega) _ ?hB ?hT) belowK_t (belowK_b (by simp)) (Below.refl _ _) (fun _ => rfl)
        (fun pre W => w2.heap.size + 1 ≤ W.heap.size ∧ pre = [] ∧ Boxed W (w.heap.size + 1) 61 (.slice (some ⟨og, 0, none⟩) (o.length + 1) ocap) ∧ W.ownsRow w.heap.size 3 1 (.slice (some ⟨og, 0, none⟩) (o.length + 1) ocap) (o.length + 1) (encI (o ++ [lst])) ∧ RowsIn W g ly ∧ Tab W ∧ Marks w.heap.size W Ds ∧ Below w.heap.size w W)
        (fun cd pre W => w2.heap.size + 1 ≤ W.heap.size ∧ cd = .exit 2 ∧ ∃ q v, vals pre = [q] ∧ q ∈ bitsOf M ∧ Boxed W (w.heap.size + 1) 61 v ∧ W.ownsRow w.heap.size 3 1 v ((o ++ [lst]).length + 1) (encI ((o ++ [lst]) ++ [q])) ∧ RowsIn W g ly ∧ Tab W ∧ Marks w.heap.size W Ds ∧ Below w.heap.size w W)
        ?hI ?hIx ?h0
        (fun x => { tmps := #[pv b, .int .i64 start, undef, undef, .slice none 0 0, pv (w.heap.size + 1), .slice (some ⟨g, 0, none⟩) (m + 1) cap, .int .i64 i, .int .i64 ((x.1 : Nat) : Int), .int .i64 start, .slice (some ⟨w.heap.size, 0, none⟩) 1 1, pv b, .int .i64 start, .slice (some ⟨g, 0, none⟩) (m + 1) cap, .slice (some ⟨g, 0, none⟩) (m + 1) cap, .int .i64 (m + 1), .int .i64 m, .int .i64 i, .bool true, u19, u20, pv b, pv b, pv b, .slice (some ⟨c, 0, none⟩) L.length L.length, .slice (some ⟨og, 0, none⟩) (o.length + 1) ocap, .slice (some ⟨og, 0, none⟩) (o.length + 1) ocap, .int .i64 (o.length + 1), .int .i64 o.length, .pointer (some ⟨og, o.length, none⟩), .int .i64 lst, .pointer (some ⟨c, lst * 4, none⟩), rv (gr L lst), .slice (some ⟨g, 0, none⟩) (m + 1) cap, .int .i64 i, .pointer (some ⟨g, i * 4, none⟩), rv (gr ly i), rv M, .func (.func 77) #[] #[.pointer (some ⟨w2.heap.size, 0, none⟩)], .int .i64 ((x.1 : Nat) : Int), u40, u41, u42, u43, undef], defers := [] }) ?assign ?body ?done ?stop
      case hB => exact Blk.new _ _ _
      case hT => exact hT2.alloc _
      case hI =>
        refine ownFrom_rows (fun s W hi => by simpa using hi.1) ?_
        rintro s W W' ⟨h1, h2, h3, h4, h5, h6, h7, h8⟩ hb' ho
        have hb' : Below (w2.heap.size + 1) W W' := by simpa using hb'
        exact ⟨Nat.le_trans h1 hb'.size, h2, (hb'.block _ (by omega)).trans h3, ho _ _ _ _ _ _ h4, h5.below hb' (by omega), h6.below hb' (by omega), h7.below hb' (fun D hD => by have := hDlt D hD; omega), h8.trans (hb'.mono (by omega))⟩
      case hIx =>
        intro cd
        refine ownFrom_rows (fun s W hi => by simpa using hi.1) ?_
        rintro s W W' ⟨h1, h2, q, v, h9, h10, h3, h4, h5, h6, h7, h8⟩ hb' ho
        have hb' : Below (w2.heap.size + 1) W W' := by simpa using hb'
        exact ⟨Nat.le_trans h1 hb'.size, h2, q, v, h9, h10, (hb'.block _ (by omega)).trans h3, ho _ _ _ _ _ _ h4, h5.below hb' (by omega), h6.below hb' (by omega), h7.below hb' (fun D hD => by have := hDlt D hD; omega), h8.trans (hb'.mono (by omega))⟩
      case h0 =>
        exact ⟨by simp, rfl, hv2.alloc _, hrow2.alloc _, hrw2.below ((Below.refl _ _).alloc (Nat.le_refl _) _) hrw2.lt, hT2.alloc _, hD2.keeps (KeepsOthers.alloc _ _), hBw2.alloc hs2 _⟩
      case assign =>
        intro l x W K hK
        gi_wp2
        exact hK
      case body =>
        rintro l pre x W ⟨h1, rfl, h3, h4, h5, h6, h7, h8⟩ _
        have k0 := h3.cell
        have hs8 := h8.size
        gi_wp2_with (gi_at_builtin; refine wpListIn_append_own _ rfl _ _ 61 rfl w.heap.size 3 i0 (.int .i64 0) 1 8 Tryd.underlying61 hi hz0 hz1 hz2 rfl (by decide) (.slice (some ⟨og, 0, none⟩) (o.length + 1) ocap) _ _ rfl (h4.alloc _) ⟨W.heap.size, 0, none⟩ 1 1 [.int .i64 ((x.1 : Nat) : Int)] rfl rfl (cell_one_new _ _ _) (by simp [Value.oneCell']) (by unfold maxLen; omega) (by omega) (by simp; omega) ?_; intro v' w3 hown' hgrow _; obtain ⟨g', cap', rfl⟩ := ownsRow_succ hown'; obtain ⟨hv1, hv3, hr2, hk2, hb2⟩ := h3.appended (by decide) h4 hs8 (by omega) hown' hgrow; have hc1 := hv1.cell; have hf1 := hv1.frozen)
        refine ⟨hk2, Nat.le_trans h1 hk2.size, rfl, x.1, _, rfl, x.2, hv3, ?_, ?_, h6.below hb2 (by omega), h7.keeps hk2, h8.trans hb2⟩
        · rw [encI_snoc, List.length_append]; exact hr2
        · obtain ⟨cur, hk, e⟩ := h5.ex
          have hne : some g ≠ (Value.slice (some ⟨og, 0, none⟩) (o.length + 1) ocap).ownBlock := by
            intro e'
            obtain rfl : g = og := by simpa [Value.ownBlock] using e'
            rcases h4.2 with ⟨e2, _⟩ | ⟨g2, cap2, cur2, e2, _, hgb2, _⟩
            · cases e2
            · cases e2
              have := hk.symm.trans hgb2
              simp at this
          exact ((⟨cur, hk.alloc _, e⟩ : RowsIn (W.alloc _) g ly).grown hgrow hne).other (by simp; omega) _
      case done =>
        rintro D ys W hDD hys ⟨h1, rfl, h3, h4, h5, h6, h7, h8⟩ hK
        have hnil : bitsOf M = [] := hys.symm
        obtain ⟨j, rfl, hcy⟩ := HB.out
        rw [hnil] at hcy
        have HC2 : Hid (start :: cycF L start (remL ly m) = (o ++ [lst]) ++ cycF L lst (remL ly j)) := by show _ = _; rw [HC.out, hcy]
        clear hcy HB
        gi_wp2
        have hm2 : Marks w.heap.size W (D :: Ds) := h7.cons hK (by simp at hDD; omega) (fun E hE => by have := hDlt E hE; simp at hDD; omega)
        refine ⟨?_, ?_⟩
        · refine ⟨j, D :: Ds, o, lst, ?_⟩
          repeat apply Exists.intro
          exact ⟨⟨by omega, hlst, by omega, HC2, ⟨_, h3, h4⟩, h5, h8, hm2⟩, rfl⟩
        · simp [intOf]
      case stop =>
        rintro D cd pre W hDD hpre ⟨h1, rfl, q, v, hq, hqm, h3, h4, h5, h6, h7, h8⟩ hK
        rw [hq] at hpre
        obtain ⟨tl, htl⟩ := hpre
        obtain ⟨j, rfl, hcy⟩ := HB.out
        rw [← htl] at hcy
        have HC2 : Hid (start :: cycF L start (remL ly m) = ((o ++ [lst]) ++ [q]) ++ cycF L q (remL ly j)) := by show _ = _; rw [HC.out, hcy]; simp
        have hqL := HML.out q hqm
        clear hcy HB htl
        gi_wp2
        have hm2 : Marks w.heap.size W (D :: Ds) := h7.cons hK (by simp at hDD; omega) (fun E hE => by have := hDlt E hE; simp at hDD; omega)
        refine ⟨?_, ?_⟩
        · refine ⟨j, D :: Ds, o ++ [lst], q, ?_⟩
          repeat apply Exists.intro
          exact ⟨⟨by omega, hqL, by simp; omega, HC2, ⟨_, h3, h4⟩, h5, h8, hm2⟩, rfl⟩
        · simp [intOf]
    · obtain rfl : i = 0 := by omega
      have k0 := hv.cell
      gi_wp2
      refine leave_marks hD ⟨_, results_tmp rfl _ _ _, _, ly, rfl, hly, ?_, hB.trans (shut_below hD)⟩
      have e : start :: cycF L start (remL ly (ly.length - 1)) = o ++ [lst] := by
        rw [Hm.out, Nat.add_sub_cancel, HC.out, remL_zero]; simp [cycF]
      have e2 : (cycF L start (remL ly (ly.length - 1))).length + 1 = o.length + 1 := by have := congrArg List.length e; simpa using this
      rw [e, e2]
      exact shut_owns hD hrow
theorem cycleFrom_calls (b c : Nat) (L : List Nat) (start : Nat) (w : World) (h : IsRel w b c L) (hT : Tab w) (hst : start < L.length) :
    Calls Tryd.prog 76 #[pv b, .int .i64 start] w fun e w' => ∃ v ly, e = .returned v ∧ LayOK L (invL L) start 0 (setB 0 start true) ly ∧ w'.ownsRow w.heap.size 3 1 v (start :: cycF L start (remL ly (ly.length - 1))).length (encI (start :: cycF L start (remL ly (ly.length - 1)))) ∧ Below w.heap.size w w' := callsIn_wide.1 (cycleFrom_in b c L start w h hT hst)
end Go.Proofs.YtpflelkdkpabbaaDoor
