import Derived.Test.YtdkogbfamdnheaaGreatDoorJ25
namespace Go.Proofs.YtdkogbfamdnheaaGreatDoor
open Go.RowKit
set_option maxRecDepth 100000
set_option maxHeartbeats 16000000
set_option linter.unusedSimpArgs false
set_option linter.unusedVariables false
section
variable {P : Program} {Q : Exit → Act → World → Prop} {a : Act} {w : World}
theorem Qgr {cr body post : Code} {t b0 b1 : Nat} (n : Nat) (I : Nat → Act → World → Prop) (h0 : I 0 a w)
  (round : ∀ k a w, k ≤ n → I k a w → cr.wp P (Exit.then (fun a w => ∃ q : Bool, a.eval (.tmp t) = .bool q ∧ (q = false → Q .normal a w) ∧ (q = true → k < n ∧
   body.wp P (Exit.inBlock b1 (Exit.then (fun a w => post.wp P (Exit.then (I (k + 1)) (Exit.inBlock b0 Q)) a w) (Exit.inBlock b0 Q))) a w)) (Exit.inBlock b0 Q)) a w) :
  (Code.block b0 (((cr.seq (.cond (.tmp t) .skip (.exit b0))).seq ((Code.block b1 body).seq post)).loop)).wp P Q a w := by
 refine wp_block (wp_loop_rounds (n + 1) ?_)
 have key : ∀ m k a w, k + m = n → I k a w → Code.rounds P ((cr.seq (.cond (.tmp t) .skip (.exit b0))).seq ((Code.block b1 body).seq post)) (Exit.inBlock b0 Q) (m + 1) a w := by
  intro m
  induction m with
  | zero =>
   intro k a w hk hI
   rw [rounds_succ]
   refine wp_seq (wp_seq (wp_mono (round k a w oW hI) (fun e a w h => ?_)))
   cases e
   case normal =>
    obtain ⟨q, hq, h1, h2⟩ := h
    cases q
    ·exact wp_cond_false hq (wp_exit (by show (if b0 = b0 then Q .normal a w else Q (.exit b0) a w); rw [if_pos rfl]; exact h1 rfl))
    ·have := (h2 rfl).1; omega
   all_goals exact h
  | succ m ih =>
   intro k a w hk hI
   rw [rounds_succ]
   refine wp_seq (wp_seq (wp_mono (round k a w oW hI) (fun e a w h => ?_)))
   cases e
   case normal =>
    obtain ⟨q, hq, h1, h2⟩ := h
    cases q
    ·exact wp_cond_false hq (wp_exit (by show (if b0 = b0 then Q .normal a w else Q (.exit b0) a w); rw [if_pos rfl]; exact h1 rfl))
    ·refine wp_cond_true hq (Go.wp_skip (wp_seq (wp_block (wp_mono (h2 rfl).2 (fun e a w h => ?_)))))
     have fin : ∀ e a w, Exit.then (fun a w => post.wp P (Exit.then (I (k + 1)) (Exit.inBlock b0 Q)) a w) (Exit.inBlock b0 Q) e a w → Exit.then (Code.wp P post (Exit.then (Code.rounds P ((cr.seq (.cond (.tmp t) .skip (.exit b0))).seq ((Code.block b1 body).seq post)) (Exit.inBlock b0 Q) (m + 1)) (Exit.inBlock b0 Q))) (Exit.inBlock b0 Q) e a w := fun e a w h => by
      cases e
      case normal =>
       refine wp_mono h (fun e a w h => ?_)
       cases e
       case normal => exact ih (k + 1) a w oW h
       all_goals exact h
      all_goals exact h
     cases e
     case exit i =>
      show (if i = b1 then _ else _)
      by_cases hi : i = b1
      ·rw [if_pos hi]
       exact fin .normal a w (by have h' : (if i = b1 then _ else _) := h; rw [if_pos hi] at h'; exact h')
      ·rw [if_neg hi]
       exact fin (.exit i) a w (by have h' : (if i = b1 then _ else _) := h; rw [if_neg hi] at h'; exact h')
     case normal => exact fin .normal a w h
     case goto l => exact fin (.goto l) a w h
     case ret => exact fin .ret a w h
     case panic c => exact fin (.panic c) a w h
     case outgrown => exact fin .outgrown a w h
   all_goals exact h
 exact key n 0 a w oW h0
end
section
variable {P : Program} {A : Type} {E : Eng P A} {T : Nat} {w0 : World} {σ : Nat → A} {Q : Exit → Act → World → Prop}
theorem Eng.cond (d : Nat) (q : Bool) (hd : E.isB (σ d) = true) (hq : E.bv (σ d) = q) {x y : Code} (h1 : q = true → ∀ a w, E.Ga T w0 σ a w → x.wp P Q a w) (h2 : q = false → ∀ a w, E.Ga T w0 σ a w → y.wp P Q a w) :
  ∀ a w, E.Ga T w0 σ a w → (Code.cond (.tmp d) x y).wp P Q a w := fun a w h =>
 wp_cond_split (E.bool hd (h.is d)) (fun e => h1 (by rw [← hq]; exact e) a w h) (fun e => h2 (by rw [← hq]; exact e) a w h)
theorem Eng.Ga.less {σ' : Nat → A} {a : Act} {w : World} (h : E.Ga T w0 σ a w) (hs : ∀ d, E.isNo (σ' d) = true ∧ E.nw (σ' d) = false ∨ σ' d = σ d) : E.Ga T w0 σ' a w := by
 refine ⟨h.low, h.g, fun d => ?_, fun d => ?_, h.sz, h.df⟩
 ·rcases hs d with h1 | h1
  ·exact E.any h1.1
  ·rw [h1]; exact h.is d
 ·rcases hs d with h1 | h1
  ·exact h1.2
  ·rw [h1]; exact h.nw d
end
theorem Eng.Ga.to {P : Program} {A : Type} {E : Eng P A} {T : Nat} {w0 w : World} {σ : Nat → A} {a : Act} (no : A) (ks : List (Nat × A)) (h : E.Ga T w0 σ a w) (h0 : E.isNo no = true) (hn : E.nw no = false) (hk : ks.map (fun p => σ p.1) = ks.map (·.2)) : E.Ga T w0 (Qb7 (fun _ => no) ks) a w := by
 refine h.less (fun d => ?_)
 rcases Qct (σ := fun _ => no) (ks := ks) (x := d) with ⟨p, h1, rfl, h3⟩ | ⟨_, h2⟩
 ·exact .inr (h3.trans (List.map_inj_left.1 hk p h1).symm)
 ·exact .inl (by rw [h2]; exact ⟨h0, hn⟩)
theorem Eng.condk {P : Program} {A : Type} {E : Eng P A} {T : Nat} {w0 : World} {σ : Nat → A} {Q : Exit → Act → World → Prop} (d : Nat) (r q : Bool) (hd : E.isB (σ d) = true) (hq : E.bv (σ d) = r) (hr : r = q) {x y : Code} (h1 : q = true → ∀ a w, E.Ga T w0 σ a w → x.wp P Q a w) (h2 : q = false → ∀ a w, E.Ga T w0 σ a w → y.wp P Q a w) :
  ∀ a w, E.Ga T w0 σ a w → (Code.cond (.tmp d) x y).wp P Q a w := Eng.cond d q hd (hq.trans hr) h1 h2
theorem Qe6 {p q : Prop} (e : p = q) (h : p) : q := e ▸ h
theorem Qvq {b : Nat} {next : Act → World → Prop} {Q : Exit → Act → World → Prop} {a : Act} {w : World} (h : Q (.exit b) a w) : Exit.then next Q (.exit b) a w := h
theorem Qzr {b : Nat} {Q : Exit → Act → World → Prop} {a : Act} {w : World} (h : Q .normal a w) : Exit.inBlock b Q (.exit b) a w := by
 show (if b = b then Q .normal a w else Q (.exit b) a w)
 rw [if_pos rfl]
 exact h
end Go.Proofs.YtdkogbfamdnheaaGreatDoor
