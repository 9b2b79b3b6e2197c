/- What slices.DeleteFunc leaves of glued's blocks. -/
import Derived.Test.YteejkhgccaagiaaDoorOrdGlM
namespace Go.Proofs.YteejkhgccaagiaaDoor
open Go.RowKit Go.Shelf Go.Lib Go.Sort Sx

theorem par_filter : ∀ (vs : List SV) (bs : List (List Nat)), vs.length = bs.length → (∀ (i : Nat) (x : SV) (bl : List Nat), vs[i]? = some x → bs[i]? = some bl → emptyS x = bl.isEmpty) →
    (vs.filter (fun x => !emptyS x)).length = (bs.filter (fun b => !b.isEmpty)).length ∧ ∀ (i : Nat) (x : SV) (bl : List Nat), (vs.filter (fun x => !emptyS x))[i]? = some x → (bs.filter (fun b => !b.isEmpty))[i]? = some bl → ∃ j : Nat, vs[j]? = some x ∧ bs[j]? = some bl
  | [], [], _, _ => ⟨rfl, fun i x bl h _ => by simp at h⟩
  | [], _ :: _, h, _ => by simp at h
  | _ :: _, [], h, _ => by simp at h
  | v :: vs, b :: bs, h, hp => by
    have ih := par_filter vs bs (by simpa using h) (fun i x bl h1 h2 => hp (i + 1) x bl (by simpa using h1) (by simpa using h2))
    have h0 := hp 0 v b rfl rfl
    rw [List.filter_cons, List.filter_cons, ← h0]
    cases he : emptyS v
    · refine ⟨by simpa using ih.1, fun i x bl h1 h2 => ?_⟩
      cases i with
      | zero =>
        simp at h1 h2
        exact ⟨0, by simp [h1], by simp [h2]⟩
      | succ i =>
        obtain ⟨j, h3, h4⟩ := ih.2 i x bl (by simpa using h1) (by simpa using h2)
        exact ⟨j + 1, by simpa using h3, by simpa using h4⟩
    · refine ⟨by simpa using ih.1, fun i x bl h1 h2 => ?_⟩
      obtain ⟨j, h3, h4⟩ := ih.2 i x bl (by simpa using h1) (by simpa using h2)
      exact ⟨j + 1, by simpa using h3, by simpa using h4⟩
/-- Blocks that are told: a row of slices, each with its list. -/
def BlV (w : World) (base : Nat) (v : Value) (bs : List (List Nat)) : Prop := ∃ p cap, ∃ us : List SV, v = .slice p us.length cap ∧ us.length = bs.length ∧
  (0 < us.length → ∃ g, p = some ⟨g, 0, none⟩ ∧ base ≤ g ∧ g < w.heap.size ∧ ∀ (i : Nat) (x : SV), us[i]? = some x → w.cell? ⟨g, i, none⟩ = some (encS x)) ∧ ∀ (i : Nat) (x : SV) (bl : List Nat), us[i]? = some x → bs[i]? = some bl → BlkS w x bl
theorem BlV.blocks {w : World} {base : Nat} {v : Value} {bs : List (List Nat)} (h : BlV w base v bs) : BlocksR w v bs := by
  obtain ⟨p, cap, us, e, hl, h1, h2⟩ := h
  refine ⟨p, cap, by rw [← hl]; exact e, us.map encS, by simpa using hl, fun h0 => ?_, fun i u bl hu hbl => ?_⟩
  · obtain ⟨g, e2, _, h3, h4⟩ := h1 (by omega)
    refine ⟨g, e2, h3, fun i u hu => ?_⟩
    rw [List.getElem?_map] at hu
    cases hx : us[i]? with
    | none => rw [hx] at hu; cases hu
    | some x =>
      rw [hx] at hu
      injection hu with hu
      subst hu
      exact h4 i x hx
  · rw [List.getElem?_map] at hu
    cases hx : us[i]? with
    | none => rw [hx] at hu; cases hu
    | some x =>
      rw [hx] at hu
      injection hu with hu
      subst hu
      exact (h2 i x bl hx hbl).ints
theorem BlV.set {w : World} {base : Nat} {v u : Value} {bs : List (List Nat)} {B j : Nat} {cs : Array Value} (h : BlV w base v bs) (hb : Blk w B 25 cs) (hB : B < base) : BlV (w.setCell ⟨B, j, none⟩ u) base v bs := by
  obtain ⟨p, cap, us, e, hl, h1, h2⟩ := h
  refine ⟨p, cap, us, e, hl, fun h0 => ?_, fun i x bl h3 h4 => (h2 i x bl h3 h4).mono (KeepI.set hb (by decide) _ _)⟩
  obtain ⟨g, e2, h3, h4, h5⟩ := h1 h0
  refine ⟨g, e2, h3, by simpa [World.setCell] using h4, fun i x hx => ?_⟩
  have := h5 i x hx
  unfold World.cell? at this ⊢
  rw [Below.heap_setCell w ⟨B, j, none⟩ u g (by simp; omega)]
  exact this
theorem heap_putRow {w : World} {blk off k : Nat} {d : Array SV} (h : k ≠ blk) : (putRow encS w blk off d).heap[k]? = w.heap[k]? := by
  simp [putRow, mapBlock, Array.getElem?_modify, Ne.symm h]
set_option maxHeartbeats 1000000 in
theorem idxB_nil (w : World) : Calls Tryd.prog 94 #[.slice none 0 0, .func (.func 83) #[] #[]] w fun e w' => e = .returned (.int .i64 (-1)) ∧ Below w.heap.size w w' := by
  go_enter Tryd.func94, Tryd.ntmps94
  go_wp2_with fail
  go_loopw [8] (fun i wr => i = .int .i64 0 ∧ Below w.heap.size w wr) (fun _ _ => 0)
  case atStart => exact ⟨rfl, Below.refl _ _⟩
  case round =>
    obtain ⟨rfl, hB⟩ := hrel
    go_wp2_with fail
    go_ret
    exact ⟨rfl, hB⟩
set_option maxRecDepth 100000 in
set_option maxHeartbeats 1000000 in
theorem slDel_nil (w : World) : Calls Tryd.prog 82 #[.slice none 0 0, .func (.func 83) #[] #[]] w fun e w' => e = .returned (.slice none 0 0) ∧ Below w.heap.size w w' := by
  go_enter Tryd.func82, Tryd.ntmps82
  go_wp2_with fail
  refine (idxB_nil _).mono ?_
  rintro e w1 ⟨rfl, hB⟩
  go_wp2_with fail
  go_ret
  exact ⟨rfl, hB⟩
theorem del_ans {w : World} {base : Nat} {v : Value} {vs : List SV} {bs : List (List Nat)} (h : GlR w base v vs bs) (hb : base ≤ w.heap.size) (hm : bs.length ≤ 256) :
    Calls Tryd.prog 82 #[v, .func (.func 83) #[] #[]] w fun e w' => ∃ v', e = .returned v' ∧ BlV w' base v' (bs.filter (fun b => !b.isEmpty)) ∧ Below base w w' := by
  have hl := h.len
  obtain ⟨hp1, hp2⟩ := par_filter vs bs hl (fun i x bl h1 h2 => by
    have := (h.row i x bl h1 h2).len
    show (x.2.1 == 0) = _
    rw [this]
    cases bl <;> simp)
  rcases h.own.2 with ⟨rfl, e0⟩ | ⟨g, cap, cur, rfl, hg, hcur, hcap, hcm, hcs, ht⟩
  · refine (slDel_nil w).mono ?_
    rintro e w' ⟨rfl, hB⟩
    have hb0 : bs = [] := List.eq_nil_of_length_eq_zero (by omega)
    subst hb0
    exact ⟨_, rfl, ⟨none, 0, [], rfl, rfl, fun h0 => by simp at h0, fun i x bl h1 _ => by simp at h1⟩, hB.mono hb⟩
  · have hk : Blk w g 29 cur := hcur
    have hH : Holds encS w g 0 vs.toArray := fun j hj => by
      have hj : j < vs.length := by simpa using hj
      rw [Nat.zero_add]
      refine ⟨hk.cell ?_, hk.frozen j⟩
      have h1 : (vs.map encS)[j]? = some (encS vs[j]) := by rw [List.getElem?_map, List.getElem?_eq_getElem hj]; rfl
      rw [← ht, List.getElem?_take_of_lt (by omega)] at h1
      rw [show vs.toArray[j]! = vs[j] from by rw [getElem!_pos vs.toArray j (by simpa using hj)]; simp]
      simpa using h1
    have hcall := slDel_calls g 0 cap vs.toArray w hH (by simp; omega) (by simpa using hcap)
    rw [show vs.toArray.size = vs.length from by simp] at hcall
    refine hcall.mono ?_
    rintro e w' ⟨rfl, q, rfl⟩
    generalize hus : vs.filter (fun x => !emptyS x) = us at *
    have hul : us.length ≤ vs.length := by rw [← hus]; exact List.length_filter_le _ _
    have hA : Holds encS (Sort.ahead w q) g 0 vs.toArray := hH
    have hP := holds_putRow encS (Sort.ahead w q) g 0 vs.toArray (us ++ List.replicate (vs.length - us.length) (none, 0, 0)).toArray hA (by simp; omega)
    have hgl := hk.lt
    have hkI : KeepI w (putRow encS (Sort.ahead w q) g 0 (us ++ List.replicate (vs.length - us.length) (none, 0, 0)).toArray) := fun s cs hs => by
      have hne : s ≠ g := fun e => by
        subst e
        have h1 : w.heap[s]? = some (.cells cur 29 (0, 0)) := hk
        rw [show w.heap[s]? = _ from hs] at h1
        simp at h1
      exact (heap_putRow hne).trans hs
    refine ⟨_, rfl, ⟨some ⟨g, 0, none⟩, cap, us, by simp, hp1, fun _ => ⟨g, rfl, hg, by simpa using hgl, fun i x hx => ?_⟩, fun i x bl h1 h2 => ?_⟩, ⟨rfl, rfl, rfl, by simp [Sort.ahead], fun k hk2 => heap_putRow (by omega)⟩⟩
    · have hi : i < us.length := (List.getElem?_eq_some_iff.1 hx).1
      have := (hP i (by simp; omega)).1
      rw [Nat.zero_add] at this
      rw [this]
      congr 1
      congr 1
      rw [getElem!_pos _ i (by simp; omega)]
      simp [List.getElem_append_left, hi]
      exact (List.getElem?_eq_some_iff.1 hx).2
    · obtain ⟨j, h3, h4⟩ := hp2 i x bl h1 h2
      exact (h.row j x bl h3 h4).mono hkI
end Go.Proofs.YteejkhgccaagiaaDoor
