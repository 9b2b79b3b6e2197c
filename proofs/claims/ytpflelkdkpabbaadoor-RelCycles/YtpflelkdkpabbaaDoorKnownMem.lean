/- What the walk of RelKnown wants: the relations that it holds, its literals, and what the calls answer at them. -/
import Derived.Test.YtpflelkdkpabbaaDoorKnownBits
import Derived.Test.YtpflelkdkpabbaaDoorCycWalk
import Derived.Test.YtpflelkdkpabbaaDoorInvWalk
import Derived.Test.YtpflelkdkpabbaaDoorPairsWalk
import Derived.Test.YtpflelkdkpabbaaDoorCutWalk
import Derived.Test.YtpflelkdkpabbaaDoorIdentWalk
import Derived.Test.YtpflelkdkpabbaaDoorImageWalk
namespace Go.Proofs.YtpflelkdkpabbaaDoor
open Go.RowKit Go.Shelf Sx

/-- The relations at hand, the table, and that the world below w0 is as it was. -/
structure KN (w0 : World) (rs : List (Nat × Nat × List Nat)) (w : World) : Prop where
  rel : ∀ r ∈ rs, IsRel w r.1 r.2.1 r.2.2
  tab : Tab w
  below : Below w0.heap.size w0 w
theorem KN.nil {w : World} (hT : Tab w) : KN w [] w := ⟨fun _ h => (by cases h), hT, Below.refl _ _⟩
theorem KN.step {w0 w w' : World} {rs : List (Nat × Nat × List Nat)} (h : KN w0 rs w) (hB : Below w.heap.size w w') : KN w0 rs w' :=
  ⟨fun r hr => (h.rel r hr).below hB, h.tab.step hB, below_step h.below h.below.size hB⟩
theorem below_new (w : World) (o : Obj) : Below w.heap.size w (w.alloc o) := (Below.refl _ _).alloc (Nat.le_refl _) _
theorem below_drew (w : World) : Below w.heap.size w w.drew := (Below.refl _ _).drew
theorem KN.alloc {w0 w : World} {rs : List (Nat × Nat × List Nat)} (h : KN w0 rs w) (o : Obj) : KN w0 rs (w.alloc o) := h.step (below_new _ _)
theorem KN.drew {w0 w : World} {rs : List (Nat × Nat × List Nat)} (h : KN w0 rs w) : KN w0 rs w.drew := h.step (below_drew _)
theorem KN.add {w0 w w' : World} {rs : List (Nat × Nat × List Nat)} {b c : Nat} {L : List Nat} (h : KN w0 rs w) (hM : Made w w' b c L) : KN w0 ((b, c, L) :: rs) w' := by
  refine ⟨?_, h.tab.step hM.below, below_step h.below h.below.size hM.below⟩
  intro r hr
  rcases List.mem_cons.1 hr with rfl | hr
  · exact hM.rel
  · exact (h.rel r hr).below hM.below
theorem KN.few {w0 w : World} {rs rs' : List (Nat × Nat × List Nat)} (h : KN w0 rs w) (hs : ∀ r ∈ rs', r ∈ rs) : KN w0 rs' w := ⟨fun r hr => h.rel r (hs r hr), h.tab, h.below⟩
theorem KN.one {w0 w : World} {rs : List (Nat × Nat × List Nat)} {b c : Nat} {L : List Nat} (h : KN w0 ((b, c, L) :: rs) w) : IsRel w b c L := h.rel (b, c, L) (List.mem_cons_self ..)
theorem KN.put {w0 w w' : World} {b c : Nat} {L L' : List Nat} (h : KN w0 [(b, c, L)] w) (hc : w0.heap.size ≤ c) (hr : IsRel w' b c L') (ht : Touch c w w') (h0 : 0 < w0.heap.size) : KN w0 [(b, c, L')] w' := by
  refine ⟨?_, h.tab.touch ht (by omega), ?_⟩
  · intro r hr'
    rcases List.mem_singleton.1 hr' with rfl
    exact hr
  · exact h.below.trans (ht.below hc h.below.size)

theorem PrsAt.below {w w' : World} {v : Value} {l : List (Int × Int)} (h : PrsAt w v l) (hb : Below w.heap.size w w') : PrsAt w' v l := by
  rcases h with h | ⟨s, o, cap, h1, h2, h3⟩
  · exact .inl h
  · exact .inr ⟨s, o, cap, h1, Nat.lt_of_lt_of_le h2 hb.size, fun i x hx => ⟨(hb.cell (p := ⟨s, o + i * 2, none⟩) h2).trans (h3 i x hx).1, (hb.cell (p := ⟨s, o + i * 2 + 1, none⟩) h2).trans (h3 i x hx).2⟩⟩
theorem SetAt2.below {w w' : World} {v : Value} {l : List Bool} (h : SetAt2 w v l) (hb : Below w.heap.size w w') : SetAt2 w' v l := by
  rcases h with h | ⟨s, o, cap, h1, h2, h3⟩
  · exact .inl h
  · exact .inr ⟨s, o, cap, h1, Nat.lt_of_lt_of_le h2 hb.size, fun i x hx => (hb.cell (p := ⟨s, o + i, none⟩) h2).trans (h3 i x hx)⟩
theorem prs4 (w : World) (a b c d e f g h : Int) : PrsAt (w.alloc (.cells #[.int .i64 a, .int .i64 b, .int .i64 c, .int .i64 d, .int .i64 e, .int .i64 f, .int .i64 g, .int .i64 h] 29)) (.slice (some ⟨w.heap.size, 0, none⟩) 4 4) [(a, b), (c, d), (e, f), (g, h)] := by
  have hk := Blk.new w 29 #[.int .i64 a, .int .i64 b, .int .i64 c, .int .i64 d, .int .i64 e, .int .i64 f, .int .i64 g, .int .i64 h]
  refine .inr ⟨w.heap.size, 0, 4, rfl, hk.lt, ?_⟩
  intro i x hx
  match i with
  | 0 => simp at hx; subst hx; exact ⟨hk.cell rfl, hk.cell rfl⟩
  | 1 => simp at hx; subst hx; exact ⟨hk.cell rfl, hk.cell rfl⟩
  | 2 => simp at hx; subst hx; exact ⟨hk.cell rfl, hk.cell rfl⟩
  | 3 => simp at hx; subst hx; exact ⟨hk.cell rfl, hk.cell rfl⟩
  | i + 4 => simp at hx
theorem prs3 (w : World) (a b c d e f : Int) : PrsAt (w.alloc (.cells #[.int .i64 a, .int .i64 b, .int .i64 c, .int .i64 d, .int .i64 e, .int .i64 f] 29)) (.slice (some ⟨w.heap.size, 0, none⟩) 3 3) [(a, b), (c, d), (e, f)] := by
  have hk := Blk.new w 29 #[.int .i64 a, .int .i64 b, .int .i64 c, .int .i64 d, .int .i64 e, .int .i64 f]
  refine .inr ⟨w.heap.size, 0, 3, rfl, hk.lt, ?_⟩
  intro i x hx
  match i with
  | 0 => simp at hx; subst hx; exact ⟨hk.cell rfl, hk.cell rfl⟩
  | 1 => simp at hx; subst hx; exact ⟨hk.cell rfl, hk.cell rfl⟩
  | 2 => simp at hx; subst hx; exact ⟨hk.cell rfl, hk.cell rfl⟩
  | i + 3 => simp at hx
theorem prs2 (w : World) (a b c d : Int) : PrsAt (w.alloc (.cells #[.int .i64 a, .int .i64 b, .int .i64 c, .int .i64 d] 29)) (.slice (some ⟨w.heap.size, 0, none⟩) 2 2) [(a, b), (c, d)] := by
  have hk := Blk.new w 29 #[.int .i64 a, .int .i64 b, .int .i64 c, .int .i64 d]
  refine .inr ⟨w.heap.size, 0, 2, rfl, hk.lt, ?_⟩
  intro i x hx
  match i with
  | 0 => simp at hx; subst hx; exact ⟨hk.cell rfl, hk.cell rfl⟩
  | 1 => simp at hx; subst hx; exact ⟨hk.cell rfl, hk.cell rfl⟩
  | i + 2 => simp at hx
theorem bools4 (w : World) (a b c d : Bool) : BoolsAt (w.alloc (.cells #[.bool a, .bool b, .bool c, .bool d] 4)) w.heap.size 0 [a, b, c, d] := by
  have hk := Blk.new w 4 #[.bool a, .bool b, .bool c, .bool d]
  refine ⟨hk.lt, ?_⟩
  intro i x hx
  match i with
  | 0 => simp at hx; subst hx; exact hk.cell rfl
  | 1 => simp at hx; subst hx; exact hk.cell rfl
  | 2 => simp at hx; subst hx; exact hk.cell rfl
  | 3 => simp at hx; subst hx; exact hk.cell rfl
  | i + 4 => simp at hx
theorem bools3 (w : World) (a b c : Bool) : BoolsAt (w.alloc (.cells #[.bool a, .bool b, .bool c] 4)) w.heap.size 0 [a, b, c] := by
  have hk := Blk.new w 4 #[.bool a, .bool b, .bool c]
  refine ⟨hk.lt, ?_⟩
  intro i x hx
  match i with
  | 0 => simp at hx; subst hx; exact hk.cell rfl
  | 1 => simp at hx; subst hx; exact hk.cell rfl
  | 2 => simp at hx; subst hx; exact hk.cell rfl
  | i + 3 => simp at hx
theorem BoolsAt.set4 {w : World} {s : Nat} {a b c d : Bool} (h : BoolsAt w s 0 [a, b, c, d]) : SetAt w (.slice (some ⟨s, 0, none⟩) 4 4) [a, b, c, d] := .inr ⟨s, 0, 4, rfl, h⟩
theorem BoolsAt.set3 {w : World} {s : Nat} {a b c : Bool} (h : BoolsAt w s 0 [a, b, c]) : SetAt w (.slice (some ⟨s, 0, none⟩) 3 3) [a, b, c] := .inr ⟨s, 0, 3, rfl, h⟩
theorem BoolsAt.two4 {w : World} {s : Nat} {a b c d : Bool} (h : BoolsAt w s 0 [a, b, c, d]) : SetAt2 w (.slice (some ⟨s, 0, none⟩) 4 4) [a, b, c, d] := .inr ⟨s, 0, 4, rfl, h.lt, h.cell⟩
theorem set_nil (w : World) : SetAt w (.slice none 0 0) [] := .inl ⟨rfl, rfl⟩

def zs (l : List (Nat × Nat)) : List (Int × Int) := l.map (fun x => (((x.1 : Nat) : Int), ((x.2 : Nat) : Int)))
theorem PairsT (l : List (Int × Int)) (b c : Nat) (L : List Nat) (w : World) (h : IsRel w b c L) (hT : Tab w) (he : zs (pairsL L) = l) :
    Calls Tryd.prog 10 #[pv b] w fun e w' => ∃ v, e = .returned v ∧ PrsAt w' v l ∧ Below w.heap.size w w' := by
  refine (Pairs_calls b c L w h hT).mono ?_
  rintro e w' ⟨v, rfl, ho, hB⟩
  subst he
  exact ⟨v, rfl, owns_pairs ho, hB⟩
theorem pairsT (v1 v2 : Value) (a : List (Int × Int)) (w : World) (h1 : PrsAt w v1 a) (h2 : PrsAt w v2 a) (hm : a.length ≤ 100000) :
    Calls Tryd.prog 9 #[v1, v2] w fun e w' => e = .returned (.bool true) ∧ Below w.heap.size w w' := by
  refine (pairs_calls v1 v2 a a w h1 h2 hm hm).mono ?_
  rintro e w' ⟨rfl, hB⟩
  exact ⟨by rw [beq_self_eq_true], hB⟩
theorem truthsT (v1 v2 : Value) (a : List Bool) (w : World) (h1 : SetAt2 w v1 a) (h2 : SetAt2 w v2 a) (hm : a.length ≤ 100000) :
    Calls Tryd.prog 19 #[v1, v2] w fun e w' => e = .returned (.bool true) ∧ Below w.heap.size w w' := by
  refine (truths_calls v1 v2 a a w h1 h2 hm hm).mono ?_
  rintro e w' ⟨rfl, hB⟩
  exact ⟨by rw [beq_self_eq_true], hB⟩
theorem ImageT (m : List Bool) (b c : Nat) (L : List Nat) (v : Value) (l : List Bool) (w : World) (h : IsRel w b c L) (hS : SetAt w v l) (hT : Tab w) (he : imgL L l = m) :
    Calls Tryd.prog 20 #[pv b, v] w fun e w' => ∃ v', e = .returned v' ∧ SetAt2 w' v' m ∧ Below w.heap.size w w' := by
  refine (Image_calls b c L v l w h hS hT).mono ?_
  rintro e w' ⟨v', rfl, ho, hB⟩
  subst he
  exact ⟨v', rfl, owns_bools ho, hB⟩
theorem SizeT (n : Int) (b c : Nat) (L : List Nat) (w : World) (h : IsRel w b c L) (he : ((sizeL L : Nat) : Int) = n) :
    Calls Tryd.prog 18 #[pv b] w fun e w' => e = .returned (.int .i64 n) ∧ Below w.heap.size w w' := by
  subst he; exact Size_calls b c L w h
theorem LenT (n : Int) (b c : Nat) (L : List Nat) (w : World) (h : IsRel w b c L) (he : ((L.length : Nat) : Int) = n) :
    Calls Tryd.prog 25 #[pv b] w fun e w' => e = .returned (.int .i64 n) ∧ w = w' := by
  subst he; exact Len_c b c L w h
theorem NewT (n : Int) (m : Nat) (w : World) (he : clampN n = m) :
    Calls Tryd.prog 13 #[.int .i64 n] w fun e w' => ∃ b c, e = .returned (pv b) ∧ Made w w' b c (List.replicate m 0) := by
  subst he
  exact (New_calls n w).mono fun e w' ⟨b, c, h1, h2, h3, h4, h5⟩ => ⟨b, c, h1, h2, h3, h4, h5⟩
theorem PutT (r : Bool) (L' : List Nat) (b c : Nat) (L : List Nat) (x y : Int) (v : Bool) (w : World) (h : IsRel w b c L) (hr : putC L x y v = r) (hL : putP L x y v = L') :
    Calls Tryd.prog 11 #[pv b, .int .i64 x, .int .i64 y, .bool v] w fun e w' => e = .returned (.bool r) ∧ IsRel w' b c L' ∧ Touch c w w' := by
  subst hr hL; exact Put_calls b c L x y v w h
theorem EqualT (r : Bool) (ba ca bb cb : Nat) (A B : List Nat) (w : World) (ha : IsRel w ba ca A) (hb : IsRel w bb cb B) (he : (A == B) = r) :
    Calls Tryd.prog 26 #[pv ba, pv bb] w fun e w' => e = .returned (.bool r) ∧ Below w.heap.size w w' := by
  subst he; exact Equal_calls ba ca bb cb A B w ha hb
theorem WithinT (r : Bool) (ba ca bb cb : Nat) (A B : List Nat) (w : World) (ha : IsRel w ba ca A) (hb : IsRel w bb cb B) (he : (sizeL (minusL A B) == 0) = r) :
    Calls Tryd.prog 27 #[pv ba, pv bb] w fun e w' => e = .returned (.bool r) ∧ Below w.heap.size w w' := by
  subst he; exact Within_calls ba ca bb cb A B w ha hb

def exP : List Nat := [2, 4, 9, 8]
abbrev cA : List Bool := [true, false, true]
abbrev cB : List Bool := [false, true, true, true]
theorem k_ex : zs (pairsL exR) = [(0, 1), (1, 2), (2, 0), (2, 3)] := by decide +kernel
theorem k_put1 : putC exR 0 1 true = false := by decide +kernel
theorem k_put1' : putP exR 0 1 true = exR := by decide +kernel
theorem k_put2 : putC exR 3 4 true = false := by decide +kernel
theorem k_put2' : putP exR 3 4 true = exR := by decide +kernel
theorem k_put3 : putC exR 3 3 true = true := by decide +kernel
theorem k_put3' : putP exR 3 3 true = exP := by decide +kernel
theorem k_put4 : putC exP 3 3 false = true := by decide +kernel
theorem k_put4' : putP exP 3 3 false = exR := by decide +kernel
theorem k_star : zs (pairsL (optL (plusL (List.replicate 3 0)))) = [(0, 0), (1, 1), (2, 2)] := by decide +kernel
theorem k_opt : ((sizeL (optL exR) : Nat) : Int) = 8 := by decide +kernel
theorem k_comp : zs (pairsL (compL exR exR)) = [(0, 2), (1, 0), (1, 3), (2, 1)] := by decide +kernel
theorem k_inv : zs (pairsL (invL exR)) = [(0, 2), (1, 0), (2, 1), (3, 2)] := by decide +kernel
theorem k_cut : zs (pairsL (cutL exR cA cB)) = [(0, 1), (2, 3)] := by decide +kernel
theorem k_img : imgL exR [false, false, true] = [true, false, false, true] := by decide +kernel
theorem k_img0 : imgL exR [] = [false, false, false, false] := by decide +kernel
theorem k_ident : zs (pairsL (identL 3 [true, false, true, true])) = [(0, 0), (2, 2)] := by decide +kernel
theorem k_len8 : (((unionL [List.replicate 2 0, exR]).length : Nat) : Int) = 4 := by decide +kernel
theorem k_len9 : (((interL (List.replicate 2 0) exR).length : Nat) : Int) = 4 := by decide +kernel
theorem k_len10 : (((minusL exR (List.replicate 9 0)).length : Nat) : Int) = 9 := by decide +kernel
theorem k_len11 : (((List.replicate 256 0 : List Nat).length : Nat) : Int) = 256 := by rw [List.length_replicate]; rfl
theorem k_eq : ((List.replicate 2 0 : List Nat) == List.replicate 3 0) = false := by decide +kernel
theorem k_in : (sizeL (minusL (List.replicate 3 0) (List.replicate 2 0)) == 0) = true := by decide +kernel

abbrev oA : Obj := .cells #[.bool false, .bool false, .bool true] 4
abbrev oB : Obj := .cells #[.bool true, .bool false, .bool false, .bool true] 4
abbrev oC : Obj := .cells #[.bool false, .bool false, .bool false, .bool false] 4
abbrev lB : List Bool := [true, false, false, true]
abbrev lC : List Bool := [false, false, false, false]
theorem make4 (w : World) : (Instr.makeSlice 35 (.int .i64 4) (.int .i64 4)).run Tryd.prog w = .ok (.slice (some ⟨w.heap.size, 0, none⟩) 4 4) (w.alloc oC) := make_bools 4 (by decide) w
theorem img1 {w : World} {b c : Nat} (W : World) (hK : KN w [(b, c, exR)] W) :
    Calls Tryd.prog 20 #[pv b, .slice (some ⟨W.heap.size, 0, none⟩) 3 3] (W.alloc oA) fun e w' => ∃ v, e = .returned v ∧ SetAt2 w' v lB ∧ KN w [(b, c, exR)] w' := by
  have hk := hK.alloc oA
  refine (ImageT lB b c exR _ _ _ hk.one ((bools3 W false false true)).set3 hk.tab k_img).mono ?_
  rintro e w' ⟨v, rfl, hS, hB⟩
  exact ⟨v, rfl, hS, hk.step hB⟩
theorem img2 {w : World} {b c : Nat} (W : World) (hK : KN w [(b, c, exR)] W) :
    Calls Tryd.prog 20 #[pv b, .slice (some ⟨W.heap.size, 0, none⟩) 3 3] ((W.alloc oA).alloc oB) fun e w' => ∃ v, e = .returned v ∧ SetAt2 w' v lB ∧ BoolsAt w' (W.heap.size + 1) 0 lB ∧ KN w [(b, c, exR)] w' := by
  have hk := (hK.alloc oA).alloc oB
  have hb := (bools4 (W.alloc oA) true false false true)
  rw [World.size_alloc] at hb
  refine (ImageT lB b c exR _ _ _ hk.one (((bools3 W false false true).below (below_new _ oB))).set3 hk.tab k_img).mono ?_
  rintro e w' ⟨v, rfl, hS, hB⟩
  exact ⟨v, rfl, hS, hb.below hB, hk.step hB⟩
theorem img3 {w : World} {b c : Nat} (W : World) (hK : KN w [(b, c, exR)] W) :
    Calls Tryd.prog 20 #[pv b, .slice (some ⟨W.heap.size + 1, 0, none⟩) 3 3] ((W.alloc oB).alloc oA) fun e w' => ∃ v, e = .returned v ∧ SetAt2 w' v lB ∧ BoolsAt w' W.heap.size 0 lB ∧ KN w [(b, c, exR)] w' := by
  have hk := (hK.alloc oB).alloc oA
  have hb := (bools3 (W.alloc oB) false false true)
  rw [World.size_alloc] at hb
  refine (ImageT lB b c exR _ _ _ hk.one hb.set3 hk.tab k_img).mono ?_
  rintro e w' ⟨v, rfl, hS, hB⟩
  exact ⟨v, rfl, hS, (((bools4 W true false false true).below (below_new _ oA))).below hB, hk.step hB⟩
theorem tru1 {w : World} {b c : Nat} {v : Value} (W : World) (hS : SetAt2 W v lB) (hK : KN w [(b, c, exR)] W) :
    Calls Tryd.prog 19 #[v, .slice (some ⟨W.heap.size, 0, none⟩) 4 4] (W.alloc oB) fun e w' => e = .returned (.bool true) ∧ KN w [(b, c, exR)] w' := by
  refine (truthsT v _ lB _ (hS.below (below_new _ _)) (bools4 W true false false true).two4 (by decide)).mono ?_
  rintro e w' ⟨rfl, hB⟩
  exact ⟨rfl, (hK.alloc _).step hB⟩
theorem tru2 {w : World} {b c s : Nat} {v : Value} (W : World) (hS : SetAt2 W v lB) (hL : BoolsAt W s 0 lB) (hK : KN w [(b, c, exR)] W) :
    Calls Tryd.prog 19 #[v, .slice (some ⟨s, 0, none⟩) 4 4] W fun e w' => e = .returned (.bool true) ∧ KN w [(b, c, exR)] w' := by
  refine (truthsT v _ lB _ hS hL.two4 (by decide)).mono ?_
  rintro e w' ⟨rfl, hB⟩
  exact ⟨rfl, hK.step hB⟩
theorem img4 {w : World} {b c : Nat} (W : World) (hK : KN w [(b, c, exR)] W) :
    Calls Tryd.prog 20 #[pv b, .slice none 0 0] W fun e w' => ∃ v, e = .returned v ∧ SetAt2 w' v lC ∧ KN w [(b, c, exR)] w' := by
  refine (ImageT lC b c exR _ _ _ hK.one (set_nil _) hK.tab k_img0).mono ?_
  rintro e w' ⟨v, rfl, hS, hB⟩
  exact ⟨v, rfl, hS, hK.step hB⟩
theorem img5 {w : World} {b c : Nat} (W : World) (hK : KN w [(b, c, exR)] W) :
    Calls Tryd.prog 20 #[pv b, .slice none 0 0] (W.alloc oC) fun e w' => ∃ v, e = .returned v ∧ SetAt2 w' v lC ∧ BoolsAt w' W.heap.size 0 lC ∧ KN w [(b, c, exR)] w' := by
  refine (ImageT lC b c exR _ _ _ (hK.alloc _).one (set_nil _) (hK.alloc _).tab k_img0).mono ?_
  rintro e w' ⟨v, rfl, hS, hB⟩
  exact ⟨v, rfl, hS, (bools4 W false false false false).below hB, (hK.alloc _).step hB⟩
theorem tru3 {w : World} {b c : Nat} {v : Value} (W : World) (hS : SetAt2 W v lC) (hK : KN w [(b, c, exR)] W) :
    Calls Tryd.prog 19 #[v, .slice (some ⟨W.heap.size, 0, none⟩) 4 4] (W.alloc oC) fun e w' => e = .returned (.bool true) ∧ KN w [(b, c, exR)] w' := by
  refine (truthsT v _ lC _ (hS.below (below_new _ _)) (bools4 W false false false false).two4 (by decide)).mono ?_
  rintro e w' ⟨rfl, hB⟩
  exact ⟨rfl, (hK.alloc _).step hB⟩
theorem tru4 {w : World} {b c s : Nat} {v : Value} (W : World) (hS : SetAt2 W v lC) (hL : BoolsAt W s 0 lC) (hK : KN w [(b, c, exR)] W) :
    Calls Tryd.prog 19 #[v, .slice (some ⟨s, 0, none⟩) 4 4] W fun e w' => e = .returned (.bool true) ∧ KN w [(b, c, exR)] w' := by
  refine (truthsT v _ lC _ hS hL.two4 (by decide)).mono ?_
  rintro e w' ⟨rfl, hB⟩
  exact ⟨rfl, hK.step hB⟩
end Go.Proofs.YtpflelkdkpabbaaDoor
