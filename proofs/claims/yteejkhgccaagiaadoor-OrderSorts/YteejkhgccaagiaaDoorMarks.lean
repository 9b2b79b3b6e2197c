/- The marks that loops over iterators leave among a function's deferred calls. -/
import Derived.Test.YteejkhgccaagiaaDoorFillMem
namespace Go.Proofs.YteejkhgccaagiaaDoor
open Go.RowKit Go.Shelf Sx

def mark (D : Nat) : Deferred := { target := .collected D, args := #[] }
structure Marks (n : Nat) (W : World) (Ds : List Nat) : Prop where
  nodup : Ds.Nodup
  lies : ∀ D ∈ Ds, n ≤ D ∧ W.heap[D]? = some (.deferred (some []))
def shut (W : World) : List Nat → World
  | [] => W
  | D :: Ds => shut (W.putObj D (.deferred none)) Ds
theorem Marks.nil (n : Nat) (W : World) : Marks n W [] := ⟨List.nodup_nil, fun _ h => by cases h⟩
theorem Marks.tail {n : Nat} {W : World} {D : Nat} {Ds : List Nat} (h : Marks n W (D :: Ds)) : Marks n (W.putObj D (.deferred none)) Ds := by
  refine ⟨(List.nodup_cons.1 h.nodup).2, fun E hE => ?_⟩
  have hne : E ≠ D := fun e => (List.nodup_cons.1 h.nodup).1 (e ▸ hE)
  obtain ⟨h1, h2⟩ := h.lies E (List.mem_cons_of_mem _ hE)
  exact ⟨h1, (World.putObj_heap_other hne).trans h2⟩
theorem Marks.keeps {n : Nat} {W W' : World} {Ds : List Nat} (h : Marks n W Ds) (hk : KeepsOthers W W') : Marks n W' Ds :=
  ⟨h.nodup, fun D hD => ⟨(h.lies D hD).1, hk.same D _ (h.lies D hD).2 rfl⟩⟩
theorem Marks.below {n m : Nat} {W W' : World} {Ds : List Nat} (h : Marks n W Ds) (hb : Below m W W') (hm : ∀ D ∈ Ds, D < m) : Marks n W' Ds :=
  ⟨h.nodup, fun D hD => ⟨(h.lies D hD).1, (hb.block D (hm D hD)).trans (h.lies D hD).2⟩⟩
theorem Marks.lt {n : Nat} {W : World} {Ds : List Nat} (h : Marks n W Ds) : ∀ D ∈ Ds, D < W.heap.size := fun D hD => (Array.getElem?_eq_some_iff.1 (h.lies D hD).2).1
theorem Marks.cons {n : Nat} {W : World} {D : Nat} {Ds : List Nat} (h : Marks n W Ds) (hD : W.heap[D]? = some (.deferred (some []))) (hn : n ≤ D) (hlt : ∀ E ∈ Ds, E < D) : Marks n W (D :: Ds) :=
  ⟨List.nodup_cons.2 ⟨fun hm => Nat.lt_irrefl _ (hlt D hm), h.nodup⟩, fun E hE => by
    rcases List.mem_cons.1 hE with rfl | hE
    · exact ⟨hn, hD⟩
    · exact h.lies E hE⟩
theorem leave_marks {F : Fence} {m : Nat} {P : Program} {fn : Func} {tmps : Array Value} {R : Ending → World → Prop} {n : Nat} : ∀ {Ds : List Nat} {W : World}, Marks n W Ds →
    LeavesInM F m P fn tmps R [] .returning (shut W Ds) → LeavesInM F m P fn tmps R (Ds.map mark) .returning W
  | [], _, _, hl => hl
  | D :: _, _, h, hl => ⟨by simp, .inl ⟨D, _, rfl, run_takeDeferred (h.lies D (by simp)).2, leave_marks h.tail hl⟩⟩
theorem shut_blk {n : Nat} {b : Nat} {t : TypeId} {cs : Array Value} : ∀ {Ds : List Nat} {W : World}, Marks n W Ds → Blk W b t cs → Blk (shut W Ds) b t cs
  | [], _, _, hb => hb
  | D :: Ds, W, h, hb => (show Blk (shut (W.putObj D (.deferred none)) Ds) b t cs from shut_blk h.tail (hb.putObj (h.lies D (by simp)).2 rfl _))
theorem shut_below {n : Nat} : ∀ {Ds : List Nat} {W : World}, Marks n W Ds → Below n W (shut W Ds)
  | [], W, _ => Below.refl n W
  | D :: Ds, W, h => by
    obtain ⟨h1, h2⟩ := h.lies D (by simp)
    show Below n W (shut (W.putObj D (.deferred none)) Ds)
    refine Below.trans ?_ (shut_below h.tail)
    exact ⟨rfl, rfl, rfl, by simp, fun k hk => World.putObj_heap_other (by omega)⟩
theorem shut_rel {n : Nat} {b c : Nat} {L : List Nat} {Ds : List Nat} {W : World} (h : Marks n W Ds) (hr : IsRel W b c L) : IsRel (shut W Ds) b c L :=
  ⟨hr.ne, shut_blk h hr.head, shut_blk h hr.rows, hr.len, hr.low⟩
theorem shut_made {w : World} {b c : Nat} {L : List Nat} {Ds : List Nat} {W : World} (h : Marks w.heap.size W Ds) (hr : Made w W b c L) : Made w (shut W Ds) b c L :=
  ⟨shut_rel h hr.rel, hr.hb, hr.hc, hr.below.trans (shut_below h)⟩
theorem keeps_of_touch {c : Nat} {W W' : World} {t : TypeId} {cs : Array Value} (h : Touch c W W') (hb : Blk W c t cs) : KeepsOthers W W' :=
  ⟨h.size, fun k o hk ho => by
    have hkl := (Array.getElem?_eq_some_iff.1 hk).1
    have hne : k ≠ c := by
      rintro rfl
      have := hb.symm.trans hk
      cases this
      cases ho
    exact (h.block k hkl hne).trans hk⟩
end Go.Proofs.YteejkhgccaagiaaDoor
