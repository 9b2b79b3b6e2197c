/- The document's own reading of a rune is the decoder's. -/
import Derived.Test.YtkgppagpjbkhmaaDoorLxName
namespace Go.Proofs.YtkgppagpjbkhmaaDoor
open Go.RowKit Go.Shelf

def byteAt (s : ByteArray) (i : Nat) : Nat := (s.get! i).toNat
def okAt (s : ByteArray) (i lo hi : Nat) : Bool := decide (i < s.size) && decide (lo ≤ byteAt s i) && decide (byteAt s i ≤ hi)
/-- The rune at a place, or -1. -/
def runeI (s : ByteArray) (pos : Nat) : Int := if (Utf8.decode s pos).1 = 65533 ∧ (Utf8.decode s pos).2 = 1 then -1 else ((Utf8.decode s pos).1 : Int)
/-- What follows a first byte: n - 1 bytes, the first of them between lo and hi. -/
def okK (s : ByteArray) (pos lo hi : Nat) : Nat → Bool
  | 0 => true
  | 1 => true
  | 2 => okAt s (pos + 1) lo hi
  | k + 3 => okK s pos lo hi (k + 2) && okAt s (pos + (k + 2)) 128 191
def vK (s : ByteArray) (pos : Nat) (v0 : Int) : Nat → Int
  | 0 => v0
  | 1 => v0
  | k + 2 => vK s pos v0 (k + 1) * 64 + (byteAt s (pos + (k + 1)) : Int) - 128
def refN (s : ByteArray) (pos n lo hi : Nat) (v0 : Int) : Int × Nat := if okK s pos lo hi n = true then (vK s pos v0 n, n) else (-1, 1)
def refF (s : ByteArray) (pos : Nat) : Int × Nat :=
  if byteAt s pos < 128 then ((byteAt s pos : Int), 1)
  else if 194 ≤ byteAt s pos ∧ byteAt s pos ≤ 223 then refN s pos 2 128 191 ((byteAt s pos : Int) - 192)
  else if 224 ≤ byteAt s pos ∧ byteAt s pos ≤ 239 then refN s pos 3 (if byteAt s pos = 224 then 160 else 128) (if byteAt s pos = 237 then 159 else 191) ((byteAt s pos : Int) - 224)
  else if 240 ≤ byteAt s pos ∧ byteAt s pos ≤ 244 then refN s pos 4 (if byteAt s pos = 240 then 144 else 128) (if byteAt s pos = 244 then 143 else 191) ((byteAt s pos : Int) - 240)
  else (-1, 1)
theorem byteAt_lt (s : ByteArray) (i : Nat) : byteAt s i < 256 := (s.get! i).toNat_lt
theorem okAt_iff {s : ByteArray} {i lo hi : Nat} : okAt s i lo hi = true ↔ i < s.size ∧ lo ≤ byteAt s i ∧ byteAt s i ≤ hi := by
  simp [okAt, and_assoc]
set_option maxHeartbeats 4000000 in
theorem refF_eq (s : ByteArray) (pos : Nat) : refF s pos = (runeI s pos, (Utf8.decode s pos).2) := by
  have h0 := byteAt_lt s pos
  have h1 := byteAt_lt s (pos + 1)
  have h2 := byteAt_lt s (pos + 2)
  have h3 := byteAt_lt s (pos + 3)
  have hd : Utf8.decode s pos =
    if byteAt s pos < 128 then (byteAt s pos, 1)
    else if byteAt s pos / 32 = 6 ∧ (pos + 1 < s.size ∧ byteAt s (pos + 1) / 64 = 2) then
      (if 128 ≤ (byteAt s pos % 32) * 64 + byteAt s (pos + 1) % 64 then ((byteAt s pos % 32) * 64 + byteAt s (pos + 1) % 64, 2) else (65533, 1))
    else if byteAt s pos / 16 = 14 ∧ (pos + 1 < s.size ∧ byteAt s (pos + 1) / 64 = 2) ∧ (pos + 2 < s.size ∧ byteAt s (pos + 2) / 64 = 2) then
      (if 2048 ≤ (byteAt s pos % 16) * 4096 + (byteAt s (pos + 1) % 64) * 64 + byteAt s (pos + 2) % 64 ∧ ((byteAt s pos % 16) * 4096 + (byteAt s (pos + 1) % 64) * 64 + byteAt s (pos + 2) % 64 < 55296 ∨ 57344 ≤ (byteAt s pos % 16) * 4096 + (byteAt s (pos + 1) % 64) * 64 + byteAt s (pos + 2) % 64) then ((byteAt s pos % 16) * 4096 + (byteAt s (pos + 1) % 64) * 64 + byteAt s (pos + 2) % 64, 3) else (65533, 1))
    else if byteAt s pos / 8 = 30 ∧ (pos + 1 < s.size ∧ byteAt s (pos + 1) / 64 = 2) ∧ (pos + 2 < s.size ∧ byteAt s (pos + 2) / 64 = 2) ∧ (pos + 3 < s.size ∧ byteAt s (pos + 3) / 64 = 2) then
      (if 65536 ≤ (byteAt s pos % 8) * 262144 + (byteAt s (pos + 1) % 64) * 4096 + (byteAt s (pos + 2) % 64) * 64 + byteAt s (pos + 3) % 64 ∧ (byteAt s pos % 8) * 262144 + (byteAt s (pos + 1) % 64) * 4096 + (byteAt s (pos + 2) % 64) * 64 + byteAt s (pos + 3) % 64 ≤ 1114111 then ((byteAt s pos % 8) * 262144 + (byteAt s (pos + 1) % 64) * 4096 + (byteAt s (pos + 2) % 64) * 64 + byteAt s (pos + 3) % 64, 4) else (65533, 1))
    else (65533, 1) := by
    unfold Utf8.decode byteAt Utf8.valid Utf8.runeError
    simp only [Nat.add_zero, Bool.and_eq_true, beq_iff_eq, decide_eq_true_eq, Bool.or_eq_true, ge_iff_le, and_assoc]
    generalize (s.get! pos).toNat = b0
    generalize (s.get! (pos + 1)).toNat = b1
    generalize (s.get! (pos + 2)).toNat = b2
    generalize (s.get! (pos + 3)).toNat = b3
    repeat' split
    all_goals first | rfl | (exfalso; omega)
  unfold runeI
  rw [hd]
  clear hd
  unfold refF refN okK okK okK vK vK vK vK okAt
  generalize byteAt s pos = b0 at *
  generalize byteAt s (pos + 1) = b1 at *
  generalize byteAt s (pos + 2) = b2 at *
  generalize byteAt s (pos + 3) = b3 at *
  generalize s.size = z at *
  simp only [Nat.zero_add, Bool.and_eq_true, decide_eq_true_eq, Nat.reduceAdd]
  generalize hD : (if b0 < 128 then (b0, 1) else _ : Nat × Nat) = d
  by_cases c0 : b0 < 128
  · rw [if_pos c0] at hD ⊢
    subst hD
    rw [if_neg (by simp; omega)]
  · rw [if_neg c0] at hD ⊢
    by_cases c1 : 194 ≤ b0 ∧ b0 ≤ 223
    · rw [if_pos c1]
      split at hD
      · split at hD
        · subst hD
          rw [if_pos (by omega), if_neg (by simp)]
          refine Prod.ext ?_ rfl
          simp
          omega
        · omega
      · rw [if_neg (by omega), if_neg (by omega)] at hD
        subst hD
        rw [if_neg (by omega), if_pos (by simp)]
    · rw [if_neg c1]
      by_cases c2 : 224 ≤ b0 ∧ b0 ≤ 239
      · rw [if_pos c2]
        rw [if_neg (by omega)] at hD
        have k1 : (if b0 = 224 then 160 else 128) = (if b0 = 224 then 160 else 128 : Nat) := rfl
        generalize hlo : (if b0 = 224 then 160 else 128 : Nat) = lo at *
        generalize hhi : (if b0 = 237 then 159 else 191 : Nat) = hi at *
        have hlo2 : (b0 = 224 ∧ lo = 160) ∨ (b0 ≠ 224 ∧ lo = 128) := by
          by_cases e : b0 = 224
          · rw [if_pos e] at hlo; exact .inl ⟨e, hlo.symm⟩
          · rw [if_neg e] at hlo; exact .inr ⟨e, hlo.symm⟩
        have hhi2 : (b0 = 237 ∧ hi = 159) ∨ (b0 ≠ 237 ∧ hi = 191) := by
          by_cases e : b0 = 237
          · rw [if_pos e] at hhi; exact .inl ⟨e, hhi.symm⟩
          · rw [if_neg e] at hhi; exact .inr ⟨e, hhi.symm⟩
        clear hlo hhi k1
        split at hD
        · split at hD
          · subst hD
            rw [if_pos (by omega), if_neg (by simp)]
            refine Prod.ext ?_ rfl
            simp
            omega
          · subst hD
            rw [if_neg (by omega), if_pos (by simp)]
        · rw [if_neg (by omega)] at hD
          subst hD
          rw [if_neg (by omega), if_pos (by simp)]
      · rw [if_neg c2]
        by_cases c4 : b0 / 32 = 6
        · have hd2 : d = (65533, 1) := by
            split at hD
            · rw [if_neg (by omega)] at hD
              exact hD.symm
            · rw [if_neg (by omega), if_neg (by omega)] at hD
              exact hD.symm
          subst hd2
          rw [if_neg (by omega), if_pos (by simp)]
        · rw [if_neg (by omega), if_neg (by omega)] at hD
          by_cases c3 : 240 ≤ b0 ∧ b0 ≤ 244
          · rw [if_pos c3]
            generalize hlo : (if b0 = 240 then 144 else 128 : Nat) = lo at *
            generalize hhi : (if b0 = 244 then 143 else 191 : Nat) = hi at *
            have hlo2 : (b0 = 240 ∧ lo = 144) ∨ (b0 ≠ 240 ∧ lo = 128) := by
              by_cases e : b0 = 240
              · rw [if_pos e] at hlo; exact .inl ⟨e, hlo.symm⟩
              · rw [if_neg e] at hlo; exact .inr ⟨e, hlo.symm⟩
            have hhi2 : (b0 = 244 ∧ hi = 143) ∨ (b0 ≠ 244 ∧ hi = 191) := by
              by_cases e : b0 = 244
              · rw [if_pos e] at hhi; exact .inl ⟨e, hhi.symm⟩
              · rw [if_neg e] at hhi; exact .inr ⟨e, hhi.symm⟩
            clear hlo hhi
            split at hD
            · split at hD
              · subst hD
                rw [if_pos (by omega), if_neg (by simp)]
                refine Prod.ext ?_ rfl
                simp
                omega
              · subst hD
                rw [if_neg (by omega), if_pos (by simp)]
            · subst hD
              rw [if_neg (by omega), if_pos (by simp)]
          · rw [if_neg c3]
            split at hD
            · split at hD
              · omega
              · subst hD
                rw [if_pos (by simp)]
            · subst hD
              rw [if_pos (by simp)]
end Go.Proofs.YtkgppagpjbkhmaaDoor
