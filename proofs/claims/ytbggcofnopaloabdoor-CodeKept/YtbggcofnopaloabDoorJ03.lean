/- Instructions and their words: the program's tables, and the document's patterns. -/
namespace Sx
structure Ins where
  op : Int
  rd : Int
  rn : Int
  rm : Int
  imm : Int
  cond : Int
def insEq (i j : Ins) : Bool := decide (i.op = j.op) && decide (i.rd = j.rd) && decide (i.rn = j.rn) && decide (i.rm = j.rm) && decide (i.imm = j.imm) && decide (i.cond = j.cond)
theorem insEq_iff (i j : Ins) : insEq i j = true ↔ i = j := by
  cases i; cases j; simp [insEq, and_assoc]
structure Plc where
  field : Nat
  at_ : Nat
  bits : Nat
  how : Nat
  least : Int
  most : Int
def plcs : List Plc := [⟨0, 0, 0, 0, 0, 0⟩, ⟨1, 0, 5, 0, 0, 31⟩, ⟨1, 0, 5, 0, 0, 30⟩, ⟨2, 5, 5, 0, 0, 31⟩, ⟨2, 5, 5, 0, 0, 30⟩, ⟨3, 16, 5, 0, 0, 31⟩, ⟨3, 16, 5, 0, 0, 30⟩,
  ⟨4, 5, 16, 0, 0, 65535⟩, ⟨4, 10, 12, 0, 0, 4095⟩, ⟨4, 10, 12, 3, 1, 63⟩, ⟨4, 16, 6, 0, 0, 63⟩, ⟨4, 0, 26, 0, -33554432, 33554431⟩, ⟨4, 5, 19, 0, -262144, 262143⟩,
  ⟨4, 10, 12, 1, 0, 32760⟩, ⟨4, 5, 5, 0, 0, 30⟩, ⟨5, 21, 2, 0, 0, 3⟩, ⟨5, 12, 4, 2, 0, 13⟩, ⟨5, 0, 4, 0, 0, 13⟩]
def plc (n : Nat) : Plc := plcs.getD n ⟨0, 0, 0, 0, 0, 0⟩
structure Fm where
  mask : Nat
  p0 : Nat
  p1 : Nat
  p2 : Nat
  apart : Bool
def fms : List Fm := [⟨0, 0, 0, 0, false⟩, ⟨4286578688, 1, 7, 15, false⟩, ⟨4292934656, 1, 3, 5, false⟩, ⟨4290772992, 2, 4, 8, false⟩, ⟨4290772992, 1, 3, 9, false⟩, ⟨4290837504, 1, 3, 10, false⟩,
  ⟨4292934687, 3, 5, 0, false⟩, ⟨4294905824, 1, 16, 0, false⟩, ⟨4227858432, 11, 0, 0, false⟩, ⟨4278190096, 17, 12, 0, false⟩, ⟨4278190080, 1, 12, 0, false⟩, ⟨4290772992, 1, 4, 13, false⟩,
  ⟨4294966272, 1, 4, 0, false⟩, ⟨4292934656, 1, 4, 6, true⟩, ⟨4292934656, 1, 4, 6, false⟩, ⟨4292934656, 2, 4, 5, false⟩, ⟨4294966303, 14, 0, 0, false⟩]
def fm (n : Nat) : Fm := fms.getD n ⟨0, 0, 0, 0, false⟩
def rws : List (Nat × Nat) := [(0, 0), (0xd2800000, 1), (0xf2800000, 1), (0x8b000000, 2), (0xcb000000, 2), (0x8a000000, 2), (0xaa000000, 2), (0xca000000, 2), (0xaa200000, 2), (0x9b007c00, 2), (0x9ac02000, 2), (0x9ac02400, 2),
  (0x91000000, 3), (0xd1000000, 3), (0xd3400000, 4), (0xd340fc00, 5), (0xeb00001f, 6), (0x9a9f07e0, 7), (0x14000000, 8), (0x54000000, 9), (0xb4000000, 10), (0xb5000000, 10), (0xf9400000, 11), (0xf9000000, 11),
  (0xc8dffc00, 12), (0xc89ffc00, 12), (0xc85f7c00, 12), (0xc85ffc00, 12), (0xc8007c00, 13), (0xc800fc00, 13), (0, 0), (0, 0), (0, 0), (0xd4000001, 16), (0, 0), (0xf8bfc000, 12),
  (0xc8a07c00, 14), (0xc8e07c00, 14), (0xc8a0fc00, 14), (0xc8e0fc00, 14), (0xf8208000, 15), (0xf8a08000, 15), (0xf8608000, 15), (0xf8e08000, 15), (0xf8200000, 15), (0xf8a00000, 15), (0xf8600000, 15), (0xf8e00000, 15)]
def rw (op : Nat) : Nat × Nat := rws.getD op (0, 0)
def bare (op : Nat) : Option Nat := if op = 30 then some 0xd5033dbf else if op = 31 then some 0xd5033fbf else if op = 32 then some 0xd503201f else if op = 34 then some 0xd4400000 else none
def Ins.fld (i : Ins) (f : Nat) : Int := if f = 1 then i.rd else if f = 2 then i.rn else if f = 3 then i.rm else if f = 4 then i.imm else if f = 5 then i.cond else 0
def Ins.put (i : Ins) (f : Nat) (n : Int) : Ins := if f = 1 then { i with rd := n } else if f = 2 then { i with rn := n } else if f = 3 then { i with rm := n } else if f = 4 then { i with imm := n } else if f = 5 then { i with cond := n } else i
def takesB (p : Plc) (n : Int) : Bool := decide (p.least ≤ n) && decide (n ≤ p.most) && (!decide (p.how = 1) || decide (n % 8 = 0))
def fitsF (f : Fm) (i : Ins) : Bool :=
  takesB (plc f.p0) (i.fld (plc f.p0).field) && takesB (plc f.p1) (i.fld (plc f.p1).field) && takesB (plc f.p2) (i.fld (plc f.p2).field) &&
  !(f.apart && (decide (i.rm = i.rd) || decide (i.rm = i.rn))) &&
  insEq (((i.put (plc f.p0).field 0).put (plc f.p1).field 0).put (plc f.p2).field 0) ⟨i.op, 0, 0, 0, 0, 0⟩
def numP (p : Plc) (n : Int) : Nat :=
  (if p.how = 1 then (n / 8).toNat else if p.how = 2 then (if n % 2 = 0 then n + 1 else n - 1).toNat else if p.how = 3 then ((64 - n) * 64 + (63 - n)).toNat else (n % 4294967296).toNat) % 2 ^ p.bits
def layP (p : Plc) (n : Int) : Nat := numP p n * 2 ^ p.at_
def layF (f : Fm) (i : Ins) : Nat := layP (plc f.p0) (i.fld (plc f.p0).field) ||| layP (plc f.p1) (i.fld (plc f.p1).field) ||| layP (plc f.p2) (i.fld (plc f.p2).field)
def ext (a n w : Nat) : Nat := w / 2 ^ a % 2 ^ n
def readP (p : Plc) (w : Nat) : Int :=
  let n : Int := (ext p.at_ p.bits w : Nat)
  if p.how = 1 then n * 8 else if p.how = 2 then (if n % 2 = 0 then n + 1 else n - 1) else if p.how = 3 then 63 - n % 64 else if p.least < 0 ∧ p.most < n then n - 2 ^ p.bits else n
def readF (f : Fm) (op : Nat) (w : Nat) : Ins :=
  (((⟨op, 0, 0, 0, 0, 0⟩ : Ins).put (plc f.p0).field (readP (plc f.p0) w)).put (plc f.p1).field (readP (plc f.p1) w)).put (plc f.p2).field (readP (plc f.p2) w)
def pats : List String := ["",
  "110100101cciiiiiiiiiiiiiiiiddddd", "111100101cciiiiiiiiiiiiiiiiddddd",
  "10001011000mmmmm000000nnnnnddddd", "11001011000mmmmm000000nnnnnddddd", "10001010000mmmmm000000nnnnnddddd", "10101010000mmmmm000000nnnnnddddd", "11001010000mmmmm000000nnnnnddddd", "10101010001mmmmm000000nnnnnddddd",
  "10011011000mmmmm011111nnnnnddddd", "10011010110mmmmm001000nnnnnddddd", "10011010110mmmmm001001nnnnnddddd",
  "1001000100iiiiiiiiiiiinnnnnddddd", "1101000100iiiiiiiiiiiinnnnnddddd",
  "1101001101rrrrrrssssssnnnnnddddd", "1101001101iiiiii111111nnnnnddddd",
  "11101011000mmmmm000000nnnnn11111", "1001101010011111kkkk0111111ddddd",
  "000101iiiiiiiiiiiiiiiiiiiiiiiiii", "01010100iiiiiiiiiiiiiiiiiii0cccc", "10110100iiiiiiiiiiiiiiiiiiiddddd", "10110101iiiiiiiiiiiiiiiiiiiddddd",
  "1111100101iiiiiiiiiiiinnnnnddddd", "1111100100iiiiiiiiiiiinnnnnddddd",
  "1100100011011111111111nnnnnddddd", "1100100010011111111111nnnnnddddd", "1100100001011111011111nnnnnddddd", "1100100001011111111111nnnnnddddd",
  "11001000000mmmmm011111nnnnnddddd", "11001000000mmmmm111111nnnnnddddd",
  "11010101000000110011110110111111", "11010101000000110011111110111111", "11010101000000110010000000011111",
  "11010100000iiiiiiiiiiiiiiii00001", "11010100010000000000000000000000",
  "1111100010111111110000nnnnnddddd",
  "11001000101mmmmm011111nnnnnddddd", "11001000111mmmmm011111nnnnnddddd", "11001000101mmmmm111111nnnnnddddd", "11001000111mmmmm111111nnnnnddddd",
  "11111000001mmmmm100000nnnnnddddd", "11111000101mmmmm100000nnnnnddddd", "11111000011mmmmm100000nnnnnddddd", "11111000111mmmmm100000nnnnnddddd",
  "11111000001mmmmm000000nnnnnddddd", "11111000101mmmmm000000nnnnnddddd", "11111000011mmmmm000000nnnnnddddd", "11111000111mmmmm000000nnnnnddddd"]
def patS (op : Nat) : String := pats.getD op ""
def patL (op : Nat) : List Nat := (patS op).toUTF8.data.toList.map fun c => c.toNat
def sg (op k : Nat) : Nat := (patL op).getD k 0
def behind (op k : Nat) : Nat := ((patL op).drop (k + 1)).count (sg op k)
def hasL (op l : Nat) : Bool := (patL op).contains l
def topR (op l : Nat) : Int := if (op = 12 ∨ op = 13) ∨ (l = 109 ∧ (op = 28 ∨ op = 29 ∨ (36 ≤ op ∧ op ≤ 39))) ∨ (l = 110 ∧ ((22 ≤ op ∧ op ≤ 29) ∨ 35 ≤ op)) ∨ (l = 100 ∧ 40 ≤ op) then 30 else 31
def regR (op l : Nat) (v : Int) : Bool := if hasL op l then decide (0 ≤ v) && decide (v ≤ topR op l) else decide (v = 0)
def immR (op : Nat) (v : Int) : Bool :=
  if op = 1 ∨ op = 2 then decide (0 ≤ v) && decide (v ≤ 65535) else if op = 12 ∨ op = 13 then decide (0 ≤ v) && decide (v ≤ 4095) else if op = 14 then decide (1 ≤ v) && decide (v ≤ 63)
  else if op = 15 then decide (0 ≤ v) && decide (v ≤ 63) else if op = 18 then decide (-33554432 ≤ v) && decide (v ≤ 33554431) else if op = 19 ∨ op = 20 ∨ op = 21 then decide (-262144 ≤ v) && decide (v ≤ 262143)
  else if op = 22 ∨ op = 23 then decide (0 ≤ v) && decide (v ≤ 32760) && decide (v % 8 = 0) else if op = 33 then decide (0 ≤ v) && decide (v ≤ 30) else decide (v = 0)
def condR (op : Nat) (v : Int) : Bool := if op = 1 ∨ op = 2 then decide (0 ≤ v) && decide (v ≤ 3) else if op = 17 ∨ op = 19 then decide (0 ≤ v) && decide (v ≤ 13) else decide (v = 0)
def fitsR (op : Nat) (i : Ins) : Bool := regR op 100 i.rd && regR op 110 i.rn && regR op 109 i.rm && immR op i.imm && condR op i.cond && (if op = 28 ∨ op = 29 then !decide (i.rm = i.rd) && !decide (i.rm = i.rn) else true)
def valR (op : Nat) (i : Ins) (l : Nat) : Int :=
  if l = 100 then i.rd else if l = 110 then i.rn else if l = 109 then i.rm else if l = 99 then i.cond else if l = 107 then (if i.cond % 2 = 0 then i.cond + 1 else i.cond - 1) else if l = 114 then 64 - i.imm else if l = 115 then 63 - i.imm
  else if op = 22 ∨ op = 23 then i.imm / 8 else i.imm
def sBit (op : Nat) (i : Ins) (l n : Nat) : Bool := if l = 49 then true else if 57 < l then (valR op i l % 18446744073709551616).toNat.testBit n else false
def wordN (op : Nat) (i : Ins) : Nat → Nat
  | 0 => 0
  | m + 1 => wordN op i m + (if sBit op i (sg op (31 - m)) (behind op (31 - m)) then 2 ^ m else 0)
def wordR (op : Nat) (i : Ins) : Nat := wordN op i 32
def isF (op : Nat) (i : Ins) : Bool := if (rw op).2 = 0 then insEq i ⟨op, 0, 0, 0, 0, 0⟩ else fitsF (fm (rw op).2) i
def wordP (op : Nat) (i : Ins) : Nat := match bare op with | some w => w | none => (rw op).1 ||| layF (fm (rw op).2) i
def sgP1 (p : Plc) (b : Nat) : Option (Nat × Nat) :=
  if p.at_ ≤ b ∧ b < p.at_ + p.bits then some (if p.how = 2 then (107, b - p.at_) else if p.how = 3 then (if b - p.at_ < 6 then (115, b - p.at_) else (114, b - p.at_ - 6)) else ([0, 100, 110, 109, 105, 99].getD p.field 0, b - p.at_)) else none
def plS (op q : Nat) : Plc := plc (if op = 33 ∧ q = 14 then 7 else q)
def sgP (op b : Nat) : Nat × Nat := match bare op with
  | some w => (if w.testBit b then 49 else 48, 0)
  | none => if (rw op).1.testBit b then (49, 0) else match sgP1 (plS op (fm (rw op).2).p0) b with
    | some x => x
    | none => match sgP1 (plS op (fm (rw op).2).p1) b with
      | some x => x
      | none => match sgP1 (plS op (fm (rw op).2).p2) b with
        | some x => x
        | none => (48, 0)
theorem sgP_eq (op : Nat) (h1 : 1 ≤ op) (h2 : op < 48) (b : Nat) (hb : b < 32) : sg op (31 - b) = (sgP op b).1 ∧ (57 < (sgP op b).1 → behind op (31 - b) = (sgP op b).2) := by
  have h : ((List.range 48).all fun op => op == 0 || (List.range 32).all fun b => sg op (31 - b) == (sgP op b).1 && (decide ((sgP op b).1 ≤ 57) || behind op (31 - b) == (sgP op b).2)) = true := by decide +kernel
  have := (List.all_eq_true.1 h) op (List.mem_range.2 h2)
  have h3 : (op == 0) = false := by simp; omega
  rw [h3, Bool.false_or] at this
  have := (List.all_eq_true.1 this) b (List.mem_range.2 hb)
  simp at this
  exact ⟨this.1, fun h => by rcases this.2 with h4 | h4 <;> omega⟩
def vP (p : Plc) (n : Int) (l : Nat) : Int := if p.how = 1 then n / 8 else if p.how = 2 then (if n % 2 = 0 then n + 1 else n - 1) else if p.how = 3 then (if l = 115 then 63 - n else 64 - n) else n
structure PlOk (p : Plc) : Prop where
  bits : p.bits ≤ 32
  top : p.at_ + p.bits ≤ 32
  one : p.how = 1 → 0 ≤ p.least ∧ p.most ≤ 32760 ∧ p.bits = 12
  two : p.how = 2 → 0 ≤ p.least ∧ p.most ≤ 13 ∧ p.bits = 4
  three : p.how = 3 → 1 ≤ p.least ∧ p.most ≤ 63 ∧ p.bits = 12
theorem plc_ok (q : Nat) : PlOk (plc q) := by
  by_cases h : q < 18
  · have : ∀ q : Fin 18, (plc q.1).bits ≤ 32 ∧ (plc q.1).at_ + (plc q.1).bits ≤ 32 ∧ ((plc q.1).how = 1 → 0 ≤ (plc q.1).least ∧ (plc q.1).most ≤ 32760 ∧ (plc q.1).bits = 12) ∧ ((plc q.1).how = 2 → 0 ≤ (plc q.1).least ∧ (plc q.1).most ≤ 13 ∧ (plc q.1).bits = 4) ∧ ((plc q.1).how = 3 → 1 ≤ (plc q.1).least ∧ (plc q.1).most ≤ 63 ∧ (plc q.1).bits = 12) := by decide +kernel
    obtain ⟨a, b, c, d, e⟩ := this ⟨q, h⟩
    exact ⟨a, b, c, d, e⟩
  · have e : plc q = ⟨0, 0, 0, 0, 0, 0⟩ := by
      unfold plc
      rw [List.getD_eq_getElem?_getD, List.getElem?_eq_none (by simp [plcs]; omega)]
      rfl
    rw [e]
    exact ⟨by decide, by decide, by decide, by decide, by decide⟩
theorem takes_iff (p : Plc) (n : Int) : takesB p n = true ↔ p.least ≤ n ∧ n ≤ p.most ∧ (p.how = 1 → n % 8 = 0) := by
  unfold takesB
  by_cases h : p.how = 1 <;> simp [h, and_assoc]
theorem toNat_mod32 (n : Int) : (n % 4294967296).toNat = (n % 18446744073709551616).toNat % 2 ^ 32 := by omega
theorem layP_none {p : Plc} {n : Int} {b : Nat} (h : sgP1 p b = none) : (layP p n).testBit b = false := by
  unfold layP numP
  rw [Nat.testBit_mul_two_pow, Nat.testBit_mod_two_pow]
  unfold sgP1 at h
  split at h
  · cases h
  · by_cases h1 : p.at_ ≤ b
    · have h2 : ¬ b - p.at_ < p.bits := by omega
      simp [h2]
    · have h2 : ¬ b ≥ p.at_ := by omega
      simp [h2]
theorem layP_some {p : Plc} {n : Int} {b l k : Nat} (hp : PlOk p) (ht : takesB p n = true) (h : sgP1 p b = some (l, k)) : (layP p n).testBit b = (vP p n l % 18446744073709551616).toNat.testBit k := by
  obtain ⟨t1, t2, t3⟩ := (takes_iff p n).1 ht
  have hb := hp.bits
  have hb2 := hp.top
  unfold layP numP
  rw [Nat.testBit_mul_two_pow, Nat.testBit_mod_two_pow]
  unfold sgP1 at h
  split at h
  · rename_i hr
    have e1 : decide (b ≥ p.at_) = true := decide_eq_true hr.1
    have e2 : decide (b - p.at_ < p.bits) = true := decide_eq_true (by omega)
    rw [e1, e2, Bool.true_and, Bool.true_and]
    have h := Option.some.inj h
    unfold vP
    by_cases h1 : p.how = 1
    · obtain ⟨o1, o2, o3⟩ := hp.one h1
      rw [if_pos h1, if_pos h1]
      rw [if_neg (by omega), if_neg (by omega)] at h
      obtain ⟨-, rfl⟩ := Prod.mk.inj h
      congr 1
      omega
    · rw [if_neg h1, if_neg h1]
      by_cases h2 : p.how = 2
      · obtain ⟨o1, o2, o3⟩ := hp.two h2
        rw [if_pos h2, if_pos h2]
        rw [if_pos h2] at h
        obtain ⟨-, rfl⟩ := Prod.mk.inj h
        congr 1
        split <;> omega
      · rw [if_neg h2, if_neg h2]
        rw [if_neg h2] at h
        by_cases h3 : p.how = 3
        · obtain ⟨o1, o2, o3⟩ := hp.three h3
          rw [if_pos h3, if_pos h3]
          rw [if_pos h3] at h
          have e : ((64 - n) * 64 + (63 - n)).toNat = 2 ^ 6 * (64 - n).toNat + (63 - n).toNat := by omega
          rw [e, Nat.testBit_two_pow_mul_add _ (by omega)]
          by_cases h6 : b - p.at_ < 6
          · rw [if_pos h6] at h
            obtain ⟨rfl, rfl⟩ := Prod.mk.inj h
            rw [if_pos h6, if_pos rfl]
            congr 1
            omega
          · rw [if_neg h6] at h
            obtain ⟨rfl, rfl⟩ := Prod.mk.inj h
            rw [if_neg h6, if_neg (by decide)]
            congr 1
            omega
        · rw [if_neg h3, if_neg h3]
          rw [if_neg h3] at h
          obtain ⟨-, rfl⟩ := Prod.mk.inj h
          rw [toNat_mod32, Nat.testBit_mod_two_pow]
          simp
          omega
  · cases h
end Sx
namespace Sx
def plOk (op q : Nat) : Bool := match (plc q).field, (plc q).how with
  | 4, 0 => !(op == 22 || op == 23)
  | 4, 1 => op == 22 || op == 23
  | 4, 3 => !(op == 22 || op == 23)
  | 5, 0 => true
  | 5, 2 => true
  | 1, 0 => true
  | 2, 0 => true
  | 3, 0 => true
  | 0, 0 => (plc q).bits == 0
  | _, _ => false
def opOk (op : Nat) : Bool :=
  let f := fm (rw op).2
  plOk op f.p0 && plOk op f.p1 && plOk op f.p2 && (List.range 32).all fun b =>
    (if (rw op).1.testBit b then f.mask.testBit b && (sgP1 (plS op f.p0) b).isNone && (sgP1 (plS op f.p1) b).isNone && (sgP1 (plS op f.p2) b).isNone else true) &&
    (if (sgP1 (plS op f.p0) b).isSome then (sgP1 (plS op f.p1) b).isNone && (sgP1 (plS op f.p2) b).isNone else true) &&
    (if (sgP1 (plS op f.p1) b).isSome then (sgP1 (plS op f.p2) b).isNone else true) &&
    (if f.mask.testBit b then (sgP1 (plc f.p0) b).isNone && (sgP1 (plc f.p1) b).isNone && (sgP1 (plc f.p2) b).isNone else true)
theorem op_ok (op : Nat) (h1 : 1 ≤ op) (h2 : op < 48) : bare op = none → opOk op = true := by
  have h : ((List.range 48).all fun op => op == 0 || (bare op).isSome || opOk op) = true := by decide +kernel
  have := (List.all_eq_true.1 h) op (List.mem_range.2 h2)
  intro hb
  have h3 : (op == 0) = false := by simp; omega
  simpa [h3, hb] using this
theorem valR_eq (op q : Nat) (i : Ins) (b l k : Nat) (h : plOk op q = true) (hs : sgP1 (plc q) b = some (l, k)) : 57 < l ∧ valR op i l = vP (plc q) (i.fld (plc q).field) l := by
  unfold plOk at h
  unfold sgP1 at hs
  unfold vP
  split at hs
  · generalize (plc q).field = f at *
    generalize (plc q).how = hw at *
    generalize (plc q).at_ = a at *
    have hs := Option.some.inj hs
    split at h
    · obtain ⟨rfl, -⟩ := Prod.mk.inj hs
      simp [valR, Ins.fld] at h ⊢
      omega
    · obtain ⟨rfl, -⟩ := Prod.mk.inj hs
      simp [valR, Ins.fld] at h ⊢
      omega
    · rw [if_neg (by decide), if_pos rfl] at hs
      split at hs
      all_goals
        obtain ⟨rfl, -⟩ := Prod.mk.inj hs
        simp [valR, Ins.fld]
    · obtain ⟨rfl, -⟩ := Prod.mk.inj hs
      simp [valR, Ins.fld]
    · obtain ⟨rfl, -⟩ := Prod.mk.inj hs
      simp [valR, Ins.fld]
    · obtain ⟨rfl, -⟩ := Prod.mk.inj hs
      simp [valR, Ins.fld]
    · obtain ⟨rfl, -⟩ := Prod.mk.inj hs
      simp [valR, Ins.fld]
    · obtain ⟨rfl, -⟩ := Prod.mk.inj hs
      simp [valR, Ins.fld]
    · simp at h; omega
    · cases h
  · cases hs
theorem plS_takes (op q : Nat) (n : Int) (h : takesB (plc q) n = true) : takesB (plS op q) n = true ∧ layP (plc q) n = layP (plS op q) n ∧ (plS op q).field = (plc q).field := by
  unfold plS
  split
  · rename_i h2
    obtain ⟨-, rfl⟩ := h2
    obtain ⟨t1, t2, -⟩ := (takes_iff _ _).1 h
    have e1 : (plc 14).least = 0 := rfl
    have e2 : (plc 14).most = 30 := rfl
    rw [e1] at t1
    rw [e2] at t2
    refine ⟨(takes_iff _ _).2 ⟨t1, Int.le_trans t2 (by decide), fun e => by cases e⟩, ?_, rfl⟩
    show (n % 4294967296).toNat % 2 ^ 5 * 2 ^ 5 = (n % 4294967296).toNat % 2 ^ 16 * 2 ^ 5
    omega
  · exact ⟨h, rfl, rfl⟩
theorem plOk_S (op q : Nat) (h : plOk op q = true) : plOk op (if op = 33 ∧ q = 14 then 7 else q) = true := by
  split
  · rename_i h2
    obtain ⟨rfl, -⟩ := h2
    rfl
  · exact h
theorem lay_bit (op q : Nat) (i : Ins) (b l k : Nat) (h : plOk op q = true) (ht : takesB (plc q) (i.fld (plc q).field) = true) (hs : sgP1 (plS op q) b = some (l, k)) :
    (layP (plc q) (i.fld (plc q).field)).testBit b = sBit op i l k := by
  obtain ⟨s1, s2, s3⟩ := plS_takes op q _ ht
  obtain ⟨v1, v2⟩ := valR_eq op _ i b l k (plOk_S op q h) hs
  have s3' : (plc (if op = 33 ∧ q = 14 then 7 else q)).field = (plc q).field := s3
  rw [s2, layP_some (p := plS op q) (plc_ok _) s1 hs]
  unfold sBit
  rw [if_neg (by omega), if_pos v1, v2, s3']
  rfl
theorem none_bit (op q : Nat) (n : Int) (b : Nat) (ht : takesB (plc q) n = true) (hs : (sgP1 (plS op q) b).isNone = true) : (layP (plc q) n).testBit b = false := by
  rw [(plS_takes op q n ht).2.1]
  exact layP_none (by simpa using hs)
theorem fitsF_takes {f : Fm} {i : Ins} (h : fitsF f i = true) : takesB (plc f.p0) (i.fld (plc f.p0).field) = true ∧ takesB (plc f.p1) (i.fld (plc f.p1).field) = true ∧ takesB (plc f.p2) (i.fld (plc f.p2).field) = true := by
  unfold fitsF at h
  simp only [Bool.and_eq_true] at h
  exact ⟨h.1.1.1.1, h.1.1.1.2, h.1.1.2⟩
theorem word_bit (op : Nat) (h1 : 1 ≤ op) (h2 : op < 48) (i : Ins) (hb : bare op = none) (hf : fitsF (fm (rw op).2) i = true) (b : Nat) (h : b < 32) : (wordP op i).testBit b = sBit op i (sgP op b).1 (sgP op b).2 := by
  obtain ⟨t0, t1, t2⟩ := fitsF_takes hf
  have ho := op_ok op h1 h2 hb
  unfold opOk at ho
  simp only [Bool.and_eq_true] at ho
  obtain ⟨⟨⟨o0, o1⟩, o2⟩, ho⟩ := ho
  have ho := (List.all_eq_true.1 ho) b (List.mem_range.2 h)
  simp only [Bool.and_eq_true] at ho
  obtain ⟨⟨⟨w1, w2⟩, w3⟩, -⟩ := ho
  unfold wordP sgP layF
  rw [hb]
  dsimp only
  rw [Nat.testBit_or, Nat.testBit_or, Nat.testBit_or]
  cases hw : (rw op).1.testBit b
  · simp only [Bool.false_or, Bool.false_eq_true, if_false]
    cases h0 : sgP1 (plS op (fm (rw op).2).p0) b with
    | some x =>
      rw [h0] at w2
      simp at w2
      rw [none_bit op _ _ b t1 (by simp [w2]), none_bit op _ _ b t2 (by simp [w2]), Bool.or_false, Bool.or_false]
      exact lay_bit op _ i b x.1 x.2 o0 t0 h0
    | none =>
      rw [none_bit op _ _ b t0 (by simp [h0]), Bool.false_or]
      cases h3 : sgP1 (plS op (fm (rw op).2).p1) b with
      | some x =>
        rw [h3] at w3
        simp at w3
        rw [none_bit op _ _ b t2 (by simp [w3]), Bool.or_false]
        exact lay_bit op _ i b x.1 x.2 o1 t1 h3
      | none =>
        rw [none_bit op _ _ b t1 (by simp [h3]), Bool.false_or]
        cases h4 : sgP1 (plS op (fm (rw op).2).p2) b with
        | some x => exact lay_bit op _ i b x.1 x.2 o2 t2 h4
        | none =>
          rw [none_bit op _ _ b t2 (by simp [h4])]
          rfl
  · simp [sBit]
theorem layP_lt (q : Nat) (n : Int) : layP (plc q) n < 2 ^ 32 := by
  have hp := plc_ok q
  unfold layP
  have h : numP (plc q) n < 2 ^ (plc q).bits := by unfold numP; exact Nat.mod_lt _ (Nat.two_pow_pos _)
  have h2 : numP (plc q) n * 2 ^ (plc q).at_ < 2 ^ ((plc q).bits + (plc q).at_) := by
    rw [Nat.pow_add]
    exact Nat.mul_lt_mul_of_pos_right h (Nat.two_pow_pos _)
  exact Nat.lt_of_lt_of_le h2 (Nat.pow_le_pow_right (by decide) (by have := hp.top; omega))
theorem wordP_lt (op : Nat) (i : Ins) : wordP op i < 2 ^ 32 := by
  unfold wordP
  split
  · rename_i w hw
    unfold bare at hw
    repeat' split at hw
    all_goals cases hw
    all_goals decide
  · have h : (rw op).1 < 2 ^ 32 := by
      by_cases h : op < 48
      · have : ∀ op : Fin 48, (rw op.1).1 < 2 ^ 32 := by decide +kernel
        exact this ⟨op, h⟩
      · have e : rw op = (0, 0) := by
          unfold rw
          rw [List.getD_eq_getElem?_getD, List.getElem?_eq_none (by simp [rws]; omega)]
          rfl
        rw [e]
        decide
    exact Nat.or_lt_two_pow h (Nat.or_lt_two_pow (Nat.or_lt_two_pow (layP_lt _ _) (layP_lt _ _)) (layP_lt _ _))
theorem wordN_bit (op : Nat) (i : Ins) : ∀ m b, (wordN op i m).testBit b = (decide (b < m) && sBit op i (sg op (31 - b)) (behind op (31 - b))) ∧ wordN op i m < 2 ^ m
  | 0, b => by simp [wordN]
  | m + 1, b => by
    obtain ⟨h1, h2⟩ := wordN_bit op i m b
    have hlt : wordN op i (m + 1) < 2 ^ (m + 1) := by
      unfold wordN
      rw [Nat.pow_succ]
      split <;> omega
    refine ⟨?_, hlt⟩
    unfold wordN
    have e : wordN op i m + (if sBit op i (sg op (31 - m)) (behind op (31 - m)) then 2 ^ m else 0) = 2 ^ m * (if sBit op i (sg op (31 - m)) (behind op (31 - m)) then 1 else 0) + wordN op i m := by
      split <;> omega
    rw [e, Nat.testBit_two_pow_mul_add _ h2]
    by_cases hb : b < m
    · rw [if_pos hb, h1, decide_eq_true hb, decide_eq_true (by omega : b < m + 1)]
    · rw [if_neg hb]
      by_cases hb2 : b = m
      · subst hb2
        rw [decide_eq_true (by omega : b < b + 1), Nat.sub_self]
        cases sBit op i (sg op (31 - b)) (behind op (31 - b)) <;> rfl
      · rw [decide_eq_false (by omega : ¬ b < m + 1), Bool.false_and]
        obtain ⟨d, hd⟩ : ∃ d, b - m = d + 1 := ⟨b - m - 1, by omega⟩
        rw [hd]
        split
        · rw [Nat.testBit_add_one]; exact Nat.zero_testBit d
        · rw [Nat.testBit_add_one]; exact Nat.zero_testBit d
theorem sBit_idx (op : Nat) (i : Ins) (l a b : Nat) (h : 57 < l → a = b) : sBit op i l a = sBit op i l b := by
  unfold sBit
  split
  · rfl
  · split
    · rw [h ‹_›]
    · rfl
theorem word_eq (op : Nat) (h1 : 1 ≤ op) (h2 : op < 48) (i : Ins) (hf : isF op i = true) : wordP op i = wordR op i := by
  have hlt := (wordN_bit op i 32 0).2
  refine Nat.eq_of_testBit_eq fun b => ?_
  by_cases hb : b < 32
  · obtain ⟨s1, s2⟩ := sgP_eq op h1 h2 b hb
    unfold wordR
    rw [(wordN_bit op i 32 b).1, decide_eq_true hb, Bool.true_and, s1, sBit_idx op i _ _ _ s2]
    cases hbr : bare op with
    | none =>
      have hr : (rw op).2 ≠ 0 := by
        have : ∀ op : Fin 48, 1 ≤ op.1 → bare op.1 = none → (rw op.1).2 ≠ 0 := by decide +kernel
        exact this ⟨op, h2⟩ h1 hbr
      unfold isF at hf
      rw [if_neg hr] at hf
      exact word_bit op h1 h2 i hbr hf b hb
    | some w =>
      unfold wordP sgP
      rw [hbr]
      dsimp only
      cases w.testBit b <;> simp [sBit]
  · rw [Nat.testBit_lt_two_pow (Nat.lt_of_lt_of_le (wordP_lt op i) (Nat.pow_le_pow_right (by decide) (by omega)))]
    show false = (wordN op i 32).testBit b
    rw [Nat.testBit_lt_two_pow (Nat.lt_of_lt_of_le hlt (Nat.pow_le_pow_right (by decide) (by omega)))]
end Sx
namespace Sx
theorem has_tab (op : Nat) (h1 : 1 ≤ op) (h2 : op < 48) : hasL op 100 = (![16, 18, 19, 30, 31, 32, 33, 34].contains op) ∧ hasL op 110 = (![1, 2, 17, 18, 19, 20, 21, 30, 31, 32, 33, 34].contains op) ∧ hasL op 109 = (![1, 2, 12, 13, 14, 15, 17, 18, 19, 20, 21, 22, 23, 24, 25, 26, 27, 30, 31, 32, 33, 34, 35].contains op) := by
  have h : ((List.range 48).all fun op => op == 0 || (hasL op 100 == (![16, 18, 19, 30, 31, 32, 33, 34].contains op) && hasL op 110 == (![1, 2, 17, 18, 19, 20, 21, 30, 31, 32, 33, 34].contains op) && hasL op 109 == (![1, 2, 12, 13, 14, 15, 17, 18, 19, 20, 21, 22, 23, 24, 25, 26, 27, 30, 31, 32, 33, 34, 35].contains op))) = true := by decide +kernel
  have := (List.all_eq_true.1 h) op (List.mem_range.2 h2)
  have h3 : (op == 0) = false := by simp; omega
  rw [h3, Bool.false_or] at this
  simp only [Bool.and_eq_true, beq_iff_eq] at this
  exact ⟨this.1.1, this.1.2, this.2⟩
theorem fits_eq (op : Nat) (h1 : 1 ≤ op) (h2 : op < 48) (rd rn rm imm cond : Int) : isF op ⟨op, rd, rn, rm, imm, cond⟩ = fitsR op ⟨op, rd, rn, rm, imm, cond⟩ := by
  obtain ⟨t1, t2, t3⟩ := has_tab op h1 h2
  unfold fitsR regR
  rw [t1, t2, t3]
  clear t1 t2 t3
  rw [Bool.eq_iff_iff]
  match op, h1, h2 with
  | 1, _, _ | 2, _, _ | 3, _, _ | 4, _, _ | 5, _, _ | 6, _, _ | 7, _, _ | 8, _, _ | 9, _, _ | 10, _, _ | 11, _, _ | 12, _, _ | 13, _, _ | 14, _, _ | 15, _, _ | 16, _, _ | 17, _, _ | 18, _, _ | 19, _, _ | 20, _, _ | 21, _, _ | 22, _, _ | 23, _, _ | 24, _, _ | 25, _, _ | 26, _, _ | 27, _, _ | 28, _, _ | 29, _, _ | 30, _, _ | 31, _, _ | 32, _, _ | 33, _, _ | 34, _, _ | 35, _, _ | 36, _, _ | 37, _, _ | 38, _, _ | 39, _, _ | 40, _, _ | 41, _, _ | 42, _, _ | 43, _, _ | 44, _, _ | 45, _, _ | 46, _, _ | 47, _, _ =>
    simp [isF, rw, rws, fitsF, fm, fms, plc, plcs, takesB, Ins.fld, Ins.put, insEq, topR, immR, condR]
    try omega
  | op + 48, _, h => exact absurd h (by omega)
end Sx
namespace Sx
def posL (op l : Nat) : Nat × Nat := ((patL op).reverse.findIdx (· == l), (patL op).count l)
def posOk (op l : Nat) : Bool := decide ((posL op l).1 + (posL op l).2 ≤ 32) && (List.range 32).all fun k => (sg op k == l) == (decide ((posL op l).1 ≤ 31 - k) && decide (31 - k < (posL op l).1 + (posL op l).2)) && (if sg op k == l then behind op k == 31 - k - (posL op l).1 else true)
theorem pos_ok (op : Nat) (h1 : 1 ≤ op) (h2 : op < 48) (l : Nat) (hl : l ∈ [100, 110, 109, 105, 99, 107, 115]) : posOk op l = true := by
  have h : ((List.range 48).all fun op => op == 0 || [100, 110, 109, 105, 99, 107, 115].all fun l => posOk op l) = true := by decide +kernel
  have := (List.all_eq_true.1 h) op (List.mem_range.2 h2)
  have h3 : (op == 0) = false := by simp; omega
  rw [h3, Bool.false_or] at this
  exact (List.all_eq_true.1 this) l hl
theorem pos_at {op l : Nat} (h : posOk op l = true) (k : Nat) (hk : k < 32) : (sg op k = l ↔ (posL op l).1 ≤ 31 - k ∧ 31 - k < (posL op l).1 + (posL op l).2) ∧ (sg op k = l → behind op k = 31 - k - (posL op l).1) := by
  unfold posOk at h
  simp only [Bool.and_eq_true] at h
  have h := (List.all_eq_true.1 h.2) k (List.mem_range.2 hk)
  simp only [Bool.and_eq_true, beq_iff_eq] at h
  obtain ⟨h1, h2⟩ := h
  refine ⟨?_, fun hs => ?_⟩
  · rw [Bool.eq_iff_iff] at h1
    simpa using h1
  · simpa [hs] using h2
def numL (op l w : Nat) : Nat := ext (posL op l).1 (posL op l).2 w
theorem numL_word {op l : Nat} (h : posOk op l = true) (hl : 57 < l) (i : Ins) : numL op l (wordR op i) = (valR op i l % 18446744073709551616).toNat % 2 ^ (posL op l).2 := by
  have h32 : (posL op l).1 + (posL op l).2 ≤ 32 := by
    have h := h
    unfold posOk at h
    simp only [Bool.and_eq_true, decide_eq_true_eq] at h
    exact h.1
  refine Nat.eq_of_testBit_eq fun j => ?_
  unfold numL ext
  rw [Nat.testBit_mod_two_pow, Nat.testBit_mod_two_pow, Nat.testBit_div_two_pow]
  by_cases hj : j < (posL op l).2
  · rw [decide_eq_true hj, Bool.true_and, Bool.true_and]
    obtain ⟨p1, p2⟩ := pos_at h (31 - (j + (posL op l).1)) (by omega)
    have e : 31 - (31 - (j + (posL op l).1)) = j + (posL op l).1 := by omega
    rw [e] at p1 p2
    have hs := p1.2 ⟨by omega, by omega⟩
    have hb := p2 hs
    unfold wordR
    rw [(wordN_bit op i 32 _).1, decide_eq_true (by omega : j + (posL op l).1 < 32), Bool.true_and, hs, hb]
    unfold sBit
    rw [if_neg (by omega), if_pos hl]
    congr 1
    omega
  · rw [decide_eq_false hj, Bool.false_and, Bool.false_and]
def asN (op : Nat) (d n m i c k s : Nat) (hk : Nat) (hi : Nat) : Ins :=
  { op := op, rd := d, rn := n, rm := m
    imm := if op = 14 then 63 - s else
      let v : Int := if 18 ≤ op ∧ op ≤ 21 ∧ 0 < hi ∧ 2 ^ (hi - 1) ≤ i then (i : Int) - 2 ^ hi else i
      if op = 22 ∨ op = 23 then v * 8 else v
    cond := if 0 < hk then (k : Int) + 1 - 2 * ((k : Int) % 2) else c }
def asR (op w : Nat) : Ins := asN op (numL op 100 w) (numL op 110 w) (numL op 109 w) (numL op 105 w) (numL op 99 w) (numL op 107 w) (numL op 115 w) (posL op 107).2 (posL op 105).2
def cnts (op : Nat) : List Nat := [100, 110, 109, 105, 99, 107, 115].map fun l => (posL op l).2
def cntT : List (List Nat) := [[0, 0, 0, 0, 0, 0, 0], [5, 0, 0, 16, 2, 0, 0], [5, 0, 0, 16, 2, 0, 0], [5, 5, 5, 0, 0, 0, 0], [5, 5, 5, 0, 0, 0, 0], [5, 5, 5, 0, 0, 0, 0], [5, 5, 5, 0, 0, 0, 0], [5, 5, 5, 0, 0, 0, 0], [5, 5, 5, 0, 0, 0, 0],
  [5, 5, 5, 0, 0, 0, 0], [5, 5, 5, 0, 0, 0, 0], [5, 5, 5, 0, 0, 0, 0], [5, 5, 0, 12, 0, 0, 0], [5, 5, 0, 12, 0, 0, 0], [5, 5, 0, 0, 0, 0, 6], [5, 5, 0, 6, 0, 0, 0], [0, 5, 5, 0, 0, 0, 0], [5, 0, 0, 0, 0, 4, 0],
  [0, 0, 0, 26, 0, 0, 0], [0, 0, 0, 19, 4, 0, 0], [5, 0, 0, 19, 0, 0, 0], [5, 0, 0, 19, 0, 0, 0], [5, 5, 0, 12, 0, 0, 0], [5, 5, 0, 12, 0, 0, 0], [5, 5, 0, 0, 0, 0, 0], [5, 5, 0, 0, 0, 0, 0], [5, 5, 0, 0, 0, 0, 0], [5, 5, 0, 0, 0, 0, 0],
  [5, 5, 5, 0, 0, 0, 0], [5, 5, 5, 0, 0, 0, 0], [0, 0, 0, 0, 0, 0, 0], [0, 0, 0, 0, 0, 0, 0], [0, 0, 0, 0, 0, 0, 0], [0, 0, 0, 16, 0, 0, 0], [0, 0, 0, 0, 0, 0, 0], [5, 5, 0, 0, 0, 0, 0],
  [5, 5, 5, 0, 0, 0, 0], [5, 5, 5, 0, 0, 0, 0], [5, 5, 5, 0, 0, 0, 0], [5, 5, 5, 0, 0, 0, 0], [5, 5, 5, 0, 0, 0, 0], [5, 5, 5, 0, 0, 0, 0], [5, 5, 5, 0, 0, 0, 0], [5, 5, 5, 0, 0, 0, 0], [5, 5, 5, 0, 0, 0, 0], [5, 5, 5, 0, 0, 0, 0], [5, 5, 5, 0, 0, 0, 0], [5, 5, 5, 0, 0, 0, 0]]
theorem cnt_tab (op : Nat) (h1 : 1 ≤ op) (h2 : op < 48) : cnts op = cntT.getD op [] := by
  have h : ((List.range 48).all fun op => op == 0 || cnts op == cntT.getD op []) = true := by decide +kernel
  have := (List.all_eq_true.1 h) op (List.mem_range.2 h2)
  have h3 : (op == 0) = false := by simp; omega
  rw [h3, Bool.false_or] at this
  exact eq_of_beq this
theorem as_word (op : Nat) (h1 : 1 ≤ op) (h2 : op < 48) (rd rn rm imm cond : Int) (hf : fitsR op ⟨op, rd, rn, rm, imm, cond⟩ = true) : asR op (wordR op ⟨op, rd, rn, rm, imm, cond⟩) = ⟨op, rd, rn, rm, imm, cond⟩ := by
  rw [← fits_eq op h1 h2] at hf
  have hc := cnt_tab op h1 h2
  unfold cnts at hc
  simp only [List.map_cons, List.map_nil] at hc
  have k : ∀ l ∈ [100, 110, 109, 105, 99, 107, 115], posOk op l = true := fun l hl => pos_ok op h1 h2 l hl
  unfold asR
  rw [numL_word (k 100 (by decide)) (by decide), numL_word (k 110 (by decide)) (by decide), numL_word (k 109 (by decide)) (by decide), numL_word (k 105 (by decide)) (by decide), numL_word (k 99 (by decide)) (by decide), numL_word (k 107 (by decide)) (by decide), numL_word (k 115 (by decide)) (by decide)]
  clear k
  generalize (posL op 100).2 = n1 at *
  generalize (posL op 110).2 = n2 at *
  generalize (posL op 109).2 = n3 at *
  generalize (posL op 105).2 = n4 at *
  generalize (posL op 99).2 = n5 at *
  generalize (posL op 107).2 = n6 at *
  generalize (posL op 115).2 = n7 at *
  match op, h1, h2 with
  | 1, _, _ | 2, _, _ | 3, _, _ | 4, _, _ | 5, _, _ | 6, _, _ | 7, _, _ | 8, _, _ | 9, _, _ | 10, _, _ | 11, _, _ | 12, _, _ | 13, _, _ | 14, _, _ | 15, _, _ | 16, _, _ | 17, _, _ | 18, _, _ | 19, _, _ | 20, _, _ | 21, _, _ | 22, _, _ | 23, _, _ | 24, _, _ | 25, _, _ | 26, _, _ | 27, _, _ | 28, _, _ | 29, _, _ | 30, _, _ | 31, _, _ | 32, _, _ | 33, _, _ | 34, _, _ | 35, _, _ | 36, _, _ | 37, _, _ | 38, _, _ | 39, _, _ | 40, _, _ | 41, _, _ | 42, _, _ | 43, _, _ | 44, _, _ | 45, _, _ | 46, _, _ | 47, _, _ =>
    simp [cntT] at hc
    obtain ⟨rfl, rfl, rfl, rfl, rfl, rfl, rfl⟩ := hc
    simp [isF, rw, rws, fitsF, fm, fms, plc, plcs, takesB, Ins.fld, Ins.put, insEq] at hf
    simp [asN, valR]
    omega
  | op + 48, _, h => exact absurd h (by omega)
end Sx
namespace Sx
def tst (op w : Nat) : Bool := fitsR op (asR op w) && decide (wordR op (asR op w) = w)
theorem isF_as (op w : Nat) (h1 : 1 ≤ op) (h2 : op < 48) : isF op (asR op w) = fitsR op (asR op w) := fits_eq op h1 h2 _ _ _ _ _
theorem tst_word (op : Nat) (h1 : 1 ≤ op) (h2 : op < 48) (rd rn rm imm cond : Int) (hf : fitsR op ⟨op, rd, rn, rm, imm, cond⟩ = true) : tst op (wordR op ⟨op, rd, rn, rm, imm, cond⟩) = true := by
  unfold tst
  rw [as_word op h1 h2 _ _ _ _ _ hf, hf]
  simp
def maskP (op : Nat) : Nat := match bare op with | some _ => 4294967295 | none => (fm (rw op).2).mask
def onesP (op : Nat) : Nat := match bare op with | some w => w | none => (rw op).1
theorem mask_word (op : Nat) (h1 : 1 ≤ op) (h2 : op < 48) (i : Ins) (hf : isF op i = true) : wordR op i &&& maskP op = onesP op := by
  rw [← word_eq op h1 h2 i hf]
  cases hb : bare op with
  | some w =>
    unfold wordP maskP onesP
    rw [hb]
    dsimp only
    have hw : w < 2 ^ 32 := by
      have := wordP_lt op i
      unfold wordP at this
      rw [hb] at this
      exact this
    have e : (4294967295 : Nat) = 2 ^ 32 - 1 := by decide
    rw [e, Nat.and_two_pow_sub_one_eq_mod, Nat.mod_eq_of_lt hw]
  | none =>
    have hr : (rw op).2 ≠ 0 := by
      have : ∀ op : Fin 48, 1 ≤ op.1 → bare op.1 = none → (rw op.1).2 ≠ 0 := by decide +kernel
      exact this ⟨op, h2⟩ h1 hb
    unfold isF at hf
    rw [if_neg hr] at hf
    obtain ⟨t0, t1, t2⟩ := fitsF_takes hf
    have ho := op_ok op h1 h2 hb
    unfold opOk at ho
    simp only [Bool.and_eq_true] at ho
    obtain ⟨-, ho⟩ := ho
    unfold wordP maskP onesP layF
    rw [hb]
    dsimp only
    refine Nat.eq_of_testBit_eq fun b => ?_
    rw [Nat.testBit_and, Nat.testBit_or, Nat.testBit_or, Nat.testBit_or]
    by_cases h : b < 32
    · have ho := (List.all_eq_true.1 ho) b (List.mem_range.2 h)
      simp only [Bool.and_eq_true] at ho
      obtain ⟨⟨⟨w1, -⟩, -⟩, w4⟩ := ho
      cases hm : (fm (rw op).2).mask.testBit b
      · rw [hm] at w1
        cases hw : (rw op).1.testBit b
        · rw [Bool.and_false]
        · rw [hw] at w1
          simp at w1
      · rw [hm] at w4
        simp at w4
        rw [layP_none w4.1.1, layP_none w4.1.2, layP_none w4.2]
        simp
    · have hl : (rw op).1 < 2 ^ 32 := by
        have : ∀ op : Fin 48, (rw op.1).1 < 2 ^ 32 := by decide +kernel
        exact this ⟨op, h2⟩
      have hm : (fm (rw op).2).mask < 2 ^ 32 := by
        have : ∀ op : Fin 48, (fm (rw op.1).2).mask < 2 ^ 32 := by decide +kernel
        exact this ⟨op, h2⟩
      rw [Nat.testBit_lt_two_pow (Nat.lt_of_lt_of_le hm (Nat.pow_le_pow_right (by decide) (by omega))), Nat.testBit_lt_two_pow (Nat.lt_of_lt_of_le hl (Nat.pow_le_pow_right (by decide) (by omega))), Bool.and_false]
theorem mask_tst (op w : Nat) (h1 : 1 ≤ op) (h2 : op < 48) (h : tst op w = true) : w &&& maskP op = onesP op := by
  unfold tst at h
  simp only [Bool.and_eq_true, decide_eq_true_eq] at h
  have := mask_word op h1 h2 (asR op w) (by rw [isF_as op w h1 h2]; exact h.1)
  rwa [h.2] at this
theorem tst_uniq (a b w : Nat) (a1 : 1 ≤ a) (a2 : a < 48) (b1 : 1 ≤ b) (b2 : b < 48) (ha : tst a w = true) (hb : tst b w = true) : a = b := by
  have hT : ((List.range 48).all fun a => (List.range 48).all fun b => a == 0 || b == 0 || a == b || (a == 14 && b == 15) || (a == 15 && b == 14) || !(onesP a &&& maskP b == onesP b &&& maskP a)) = true := by decide +kernel
  have hx : ∀ w, tst 14 w = true → tst 15 w = true → False := by
    intro w h4 h5
    have m5 := mask_tst 15 w (by decide) (by decide) h5
    have e5 : w / 1024 % 64 = 63 := by
      have : (w &&& maskP 15) / 2 ^ 10 % 2 ^ 6 = w / 2 ^ 10 % 2 ^ 6 := by
        refine Nat.eq_of_testBit_eq fun j => ?_
        rw [Nat.testBit_mod_two_pow, Nat.testBit_mod_two_pow, Nat.testBit_div_two_pow, Nat.testBit_div_two_pow, Nat.testBit_and]
        by_cases hj : j < 6
        · have : ∀ j : Fin 6, (maskP 15).testBit (j.1 + 10) = true := by decide +kernel
          rw [this ⟨j, hj⟩, Bool.and_true]
        · simp [hj]
      rw [m5] at this
      rw [show (1024 : Nat) = 2 ^ 10 from rfl, show (64 : Nat) = 2 ^ 6 from rfl, ← this]
      decide +kernel
    unfold tst at h4
    simp only [Bool.and_eq_true] at h4
    have h4 := h4.1
    unfold fitsR at h4
    simp only [Bool.and_eq_true] at h4
    have h6 := h4.1.1.2
    have e6 : (asR 14 w).imm = 63 - (numL 14 115 w : Int) := rfl
    have e7 : numL 14 115 w = w / 1024 % 64 := by
      have : posL 14 115 = (10, 6) := by decide +kernel
      unfold numL
      rw [this]
      rfl
    rw [e6, e7, e5] at h6
    revert h6
    decide
  have hT := (List.all_eq_true.1 hT) a (List.mem_range.2 a2)
  have hT := (List.all_eq_true.1 hT) b (List.mem_range.2 b2)
  have ma := mask_tst a w a1 a2 ha
  have mb := mask_tst b w b1 b2 hb
  have hm : onesP a &&& maskP b = onesP b &&& maskP a := by
    rw [← ma, ← mb, Nat.and_assoc, Nat.and_assoc, Nat.and_comm (maskP a)]
  have hm : (onesP a &&& maskP b == onesP b &&& maskP a) = true := by rw [hm]; exact beq_self_eq_true _
  rw [hm] at hT
  simp only [Bool.or_eq_true, beq_iff_eq, Bool.and_eq_true, Bool.not_true, Bool.false_eq_true, or_false] at hT
  rcases hT with (((h | h) | h) | h) | h
  · omega
  · omega
  · exact h
  · obtain ⟨rfl, rfl⟩ := h
    exact (hx w ha hb).elim
  · obtain ⟨rfl, rfl⟩ := h
    exact (hx w hb ha).elim
def decA (w : Nat) : Option Ins := ((List.range 48).find? fun op => decide (1 ≤ op) && tst op w).map fun op => asR op w
theorem decA_some {op w : Nat} (h1 : 1 ≤ op) (h2 : op < 48) (h : tst op w = true) : decA w = some (asR op w) := by
  unfold decA
  cases hf : (List.range 48).find? fun op => decide (1 ≤ op) && tst op w with
  | none =>
    have := List.find?_eq_none.1 hf op (List.mem_range.2 h2)
    simp [h1, h] at this
  | some op2 =>
    have hs := List.find?_some hf
    have hm := List.mem_range.1 (List.mem_of_find?_eq_some hf)
    simp only [Bool.and_eq_true, decide_eq_true_eq] at hs
    rw [tst_uniq op op2 w h1 h2 hs.1 hm h hs.2]
    rfl
theorem decA_none {w : Nat} (h : ∀ op, 1 ≤ op → op < 48 → tst op w = false) : decA w = none := by
  unfold decA
  have : (List.range 48).find? (fun op => decide (1 ≤ op) && tst op w) = none := by
    rw [List.find?_eq_none]
    intro op hm
    by_cases h1 : 1 ≤ op
    · rw [h op h1 (List.mem_range.1 hm)]
      simp
    · simp [h1]
  rw [this]
  rfl
theorem decA_word (op : Nat) (h1 : 1 ≤ op) (h2 : op < 48) (rd rn rm imm cond : Int) (hf : fitsR op ⟨op, rd, rn, rm, imm, cond⟩ = true) : decA (wordR op ⟨op, rd, rn, rm, imm, cond⟩) = some ⟨op, rd, rn, rm, imm, cond⟩ := by
  rw [decA_some h1 h2 (tst_word op h1 h2 _ _ _ _ _ hf), as_word op h1 h2 _ _ _ _ _ hf]
theorem bit_and {w m o : Nat} (h : w &&& m = o) (a n : Nat) (hm : ∀ j, j < n → m.testBit (j + a) = true) : w / 2 ^ a % 2 ^ n = o / 2 ^ a % 2 ^ n := by
  subst h
  refine Nat.eq_of_testBit_eq fun j => ?_
  rw [Nat.testBit_mod_two_pow, Nat.testBit_mod_two_pow, Nat.testBit_div_two_pow, Nat.testBit_div_two_pow, Nat.testBit_and]
  by_cases hj : j < n
  · rw [hm j hj, Bool.and_true]
  · simp [hj]
def posT : List (List (Nat × Nat)) := [[], [(0, 5), (32, 0), (32, 0), (5, 16), (21, 2), (32, 0), (32, 0)], [(0, 5), (32, 0), (32, 0), (5, 16), (21, 2), (32, 0), (32, 0)], [(0, 5), (5, 5), (16, 5), (32, 0), (32, 0), (32, 0), (32, 0)],
  [(0, 5), (5, 5), (16, 5), (32, 0), (32, 0), (32, 0), (32, 0)], [(0, 5), (5, 5), (16, 5), (32, 0), (32, 0), (32, 0), (32, 0)], [(0, 5), (5, 5), (16, 5), (32, 0), (32, 0), (32, 0), (32, 0)],
  [(0, 5), (5, 5), (16, 5), (32, 0), (32, 0), (32, 0), (32, 0)], [(0, 5), (5, 5), (16, 5), (32, 0), (32, 0), (32, 0), (32, 0)], [(0, 5), (5, 5), (16, 5), (32, 0), (32, 0), (32, 0), (32, 0)],
  [(0, 5), (5, 5), (16, 5), (32, 0), (32, 0), (32, 0), (32, 0)], [(0, 5), (5, 5), (16, 5), (32, 0), (32, 0), (32, 0), (32, 0)], [(0, 5), (5, 5), (32, 0), (10, 12), (32, 0), (32, 0), (32, 0)],
  [(0, 5), (5, 5), (32, 0), (10, 12), (32, 0), (32, 0), (32, 0)], [(0, 5), (5, 5), (32, 0), (32, 0), (32, 0), (32, 0), (10, 6)], [(0, 5), (5, 5), (32, 0), (16, 6), (32, 0), (32, 0), (32, 0)],
  [(32, 0), (5, 5), (16, 5), (32, 0), (32, 0), (32, 0), (32, 0)], [(0, 5), (32, 0), (32, 0), (32, 0), (32, 0), (12, 4), (32, 0)], [(32, 0), (32, 0), (32, 0), (0, 26), (32, 0), (32, 0), (32, 0)],
  [(32, 0), (32, 0), (32, 0), (5, 19), (0, 4), (32, 0), (32, 0)], [(0, 5), (32, 0), (32, 0), (5, 19), (32, 0), (32, 0), (32, 0)], [(0, 5), (32, 0), (32, 0), (5, 19), (32, 0), (32, 0), (32, 0)],
  [(0, 5), (5, 5), (32, 0), (10, 12), (32, 0), (32, 0), (32, 0)], [(0, 5), (5, 5), (32, 0), (10, 12), (32, 0), (32, 0), (32, 0)], [(0, 5), (5, 5), (32, 0), (32, 0), (32, 0), (32, 0), (32, 0)],
  [(0, 5), (5, 5), (32, 0), (32, 0), (32, 0), (32, 0), (32, 0)], [(0, 5), (5, 5), (32, 0), (32, 0), (32, 0), (32, 0), (32, 0)], [(0, 5), (5, 5), (32, 0), (32, 0), (32, 0), (32, 0), (32, 0)],
  [(0, 5), (5, 5), (16, 5), (32, 0), (32, 0), (32, 0), (32, 0)], [(0, 5), (5, 5), (16, 5), (32, 0), (32, 0), (32, 0), (32, 0)], [(32, 0), (32, 0), (32, 0), (32, 0), (32, 0), (32, 0), (32, 0)],
  [(32, 0), (32, 0), (32, 0), (32, 0), (32, 0), (32, 0), (32, 0)], [(32, 0), (32, 0), (32, 0), (32, 0), (32, 0), (32, 0), (32, 0)], [(32, 0), (32, 0), (32, 0), (5, 16), (32, 0), (32, 0), (32, 0)],
  [(32, 0), (32, 0), (32, 0), (32, 0), (32, 0), (32, 0), (32, 0)], [(0, 5), (5, 5), (32, 0), (32, 0), (32, 0), (32, 0), (32, 0)], [(0, 5), (5, 5), (16, 5), (32, 0), (32, 0), (32, 0), (32, 0)],
  [(0, 5), (5, 5), (16, 5), (32, 0), (32, 0), (32, 0), (32, 0)], [(0, 5), (5, 5), (16, 5), (32, 0), (32, 0), (32, 0), (32, 0)], [(0, 5), (5, 5), (16, 5), (32, 0), (32, 0), (32, 0), (32, 0)],
  [(0, 5), (5, 5), (16, 5), (32, 0), (32, 0), (32, 0), (32, 0)], [(0, 5), (5, 5), (16, 5), (32, 0), (32, 0), (32, 0), (32, 0)], [(0, 5), (5, 5), (16, 5), (32, 0), (32, 0), (32, 0), (32, 0)],
  [(0, 5), (5, 5), (16, 5), (32, 0), (32, 0), (32, 0), (32, 0)], [(0, 5), (5, 5), (16, 5), (32, 0), (32, 0), (32, 0), (32, 0)], [(0, 5), (5, 5), (16, 5), (32, 0), (32, 0), (32, 0), (32, 0)],
  [(0, 5), (5, 5), (16, 5), (32, 0), (32, 0), (32, 0), (32, 0)], [(0, 5), (5, 5), (16, 5), (32, 0), (32, 0), (32, 0), (32, 0)]]
theorem pos_tab (op : Nat) (h1 : 1 ≤ op) (h2 : op < 48) : ([100, 110, 109, 105, 99, 107, 115].map fun l => posL op l) = posT.getD op [] := by
  have h : ((List.range 48).all fun op => op == 0 || ([100, 110, 109, 105, 99, 107, 115].map fun l => posL op l) == posT.getD op []) = true := by decide +kernel
  have := (List.all_eq_true.1 h) op (List.mem_range.2 h2)
  have h3 : (op == 0) = false := by simp; omega
  rw [h3, Bool.false_or] at this
  exact eq_of_beq this
theorem readF_eq (op w : Nat) (h1 : 1 ≤ op) (h2 : op < 48) (hb : bare op = none) (hm : w &&& maskP op = onesP op) : readF (fm (rw op).2) op w = asR op w := by
  have h33 : op = 33 → w / 32 % 65536 = w / 32 % 32 := by
    rintro rfl
    have := bit_and hm 10 11 (by decide +kernel)
    have e : onesP 33 / 2 ^ 10 % 2 ^ 11 = 0 := by decide +kernel
    rw [e] at this
    omega
  clear hm
  have hp := pos_tab op h1 h2
  simp only [List.map_cons, List.map_nil] at hp
  unfold asR numL
  generalize posL op 100 = n1 at *
  generalize posL op 110 = n2 at *
  generalize posL op 109 = n3 at *
  generalize posL op 105 = n4 at *
  generalize posL op 99 = n5 at *
  generalize posL op 107 = n6 at *
  generalize posL op 115 = n7 at *
  match op, h1, h2 with
  | 30, _, _ | 31, _, _ | 32, _, _ | 34, _, _ => cases hb
  | 33, _, _ =>
    have h33 := h33 rfl
    simp [posT] at hp
    obtain ⟨rfl, rfl, rfl, rfl, rfl, rfl, rfl⟩ := hp
    simp [readF, rw, rws, fm, fms, plc, plcs, readP, Ins.put, asN, ext, Nat.mod_one]
    omega
  | 1, _, _ | 2, _, _ | 3, _, _ | 4, _, _ | 5, _, _ | 6, _, _ | 7, _, _ | 8, _, _ | 9, _, _ | 10, _, _ | 11, _, _ | 12, _, _ | 13, _, _ | 14, _, _ | 15, _, _ | 16, _, _ | 17, _, _ | 18, _, _ | 19, _, _ | 20, _, _ | 21, _, _ | 22, _, _ | 23, _, _ | 24, _, _ | 25, _, _ | 26, _, _ | 27, _, _ | 28, _, _ | 29, _, _ | 35, _, _ | 36, _, _ | 37, _, _ | 38, _, _ | 39, _, _ | 40, _, _ | 41, _, _ | 42, _, _ | 43, _, _ | 44, _, _ | 45, _, _ | 46, _, _ | 47, _, _ =>
    clear h33
    simp [posT] at hp
    obtain ⟨rfl, rfl, rfl, rfl, rfl, rfl, rfl⟩ := hp
    simp [readF, rw, rws, fm, fms, plc, plcs, readP, Ins.put, asN, ext, Nat.mod_one]
    try omega
  | op + 48, _, h => exact absurd h (by omega)
end Sx
