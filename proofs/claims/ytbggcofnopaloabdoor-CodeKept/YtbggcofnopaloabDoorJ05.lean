/- The places of code's fields: ones, takes, lay, read; fields by number. -/
import Derived.Test.YtbggcofnopaloabDoorJ03
import Derived.Test.YtbggcofnopaloabDoorMem
import Derived.Test.YtbggcofnopaloabDoorChecked
namespace Go.Proofs.YtbggcofnopaloabDoor
open Go.RowKit Sx
def Hid (p : Prop) : Prop := p
theorem Hid.out {p : Prop} (h : Hid p) : p := h
theorem hid_of {p : Prop} (h : p) : Hid p := h
theorem ret_int {k : IntKind} {a b : Int} (h : a = b) : Ending.returned (.int k a) = .returned (.int k b) := by rw [h]
theorem ret_bool {a b : Bool} (h : a = b) : Ending.returned (.bool a) = .returned (.bool b) := by rw [h]
def plV (p : Plc) : Value := .agg #[.int .i64 p.field, .int .i64 p.at_, .int .i64 p.bits, .int .i64 p.how, .int .i64 p.least, .int .i64 p.most]
theorem ones_eq {b : Nat} (h : b ≤ 31) : ((2 : Int) ^ b % 4294967296 - 1) % 4294967296 = ((2 ^ b - 1 : Nat) : Int) := by
  have h1 : (2 : Nat) ^ b ≤ 2 ^ 31 := Nat.pow_le_pow_right (by decide) h
  have h2 : 1 ≤ (2 : Nat) ^ b := Nat.one_le_two_pow
  have h3 : ((2 : Int) ^ b) = ((2 ^ b : Nat) : Int) := by push_cast; rfl
  rw [h3]
  omega
theorem cdOnes_calls (p : Plc) (w : World) (hb : p.bits ≤ 31) :
    Calls Tryd.prog 41 #[plV p] w fun e w' => e = .returned (.int .u32 ((2 ^ p.bits - 1 : Nat) : Int)) ∧ Below w.heap.size w w' := by
  unfold plV
  go_enter Tryd.func41, Tryd.ntmps41
  go_wp2_with fail
  go_ret
  exact ⟨ret_int (ones_eq hb), (Below.refl _ _).alloc (Nat.le_refl _) _⟩
theorem cdTakes_calls (p : Plc) (n : Int) (w : World) (hp : PlOk p) :
    Calls Tryd.prog 42 #[plV p, .int .i64 n] w fun e w' => e = .returned (.bool (takesB p n)) ∧ Below w.heap.size w w' := by
  unfold plV
  by_cases h1 : p.least ≤ n
  · by_cases h2 : n ≤ p.most
    · by_cases h3 : p.how = 1
      · obtain ⟨o1, o2, -⟩ := hp.one h3
        have b1 : 0 ≤ n := by omega
        have b2 : n ≤ 32760 := by omega
        have e : takesB p n = (n % 8 == 0) := by simp [takesB, h1, h2, h3]; rfl
        have e3 : ((p.how : Int) == 1) = true := by simp [h3]
        rw [e]
        clear e
        go_enter Tryd.func42, Tryd.ntmps42
        go_wp2_with fail
        go_ret
        exact ⟨rfl, (Below.refl _ _).alloc (Nat.le_refl _) _⟩
      · have e : takesB p n = true := by simp [takesB, h1, h2, h3]
        have e3 : ((p.how : Int) == 1) = false := by simp; omega
        rw [e]
        clear e
        go_enter Tryd.func42, Tryd.ntmps42
        go_wp2_with fail
        go_ret
        exact ⟨rfl, (Below.refl _ _).alloc (Nat.le_refl _) _⟩
    · have e : takesB p n = false := by simp [takesB, h2]
      rw [e]
      clear e
      go_enter Tryd.func42, Tryd.ntmps42
      go_wp2_with fail
      go_ret
      exact ⟨rfl, (Below.refl _ _).alloc (Nat.le_refl _) _⟩
  · have e : takesB p n = false := by simp [takesB, h1]
    rw [e]
    clear e
    go_enter Tryd.func42, Tryd.ntmps42
    go_wp2_with fail
    go_ret
    exact ⟨rfl, (Below.refl _ _).alloc (Nat.le_refl _) _⟩
def PlS (W : World) (b : Nat) (p : Plc) : Prop := W.cell? ⟨b, 0, none⟩ = some (.int .i64 p.field) ∧ W.cell? ⟨b, 1, none⟩ = some (.int .i64 p.at_) ∧ W.cell? ⟨b, 2, none⟩ = some (.int .i64 p.bits) ∧ W.cell? ⟨b, 3, none⟩ = some (.int .i64 p.how) ∧ W.cell? ⟨b, 4, none⟩ = some (.int .i64 p.least) ∧ W.cell? ⟨b, 5, none⟩ = some (.int .i64 p.most)
theorem PlS.new (w : World) (p : Plc) : PlS (w.alloc (.cells #[.int .i64 p.field, .int .i64 p.at_, .int .i64 p.bits, .int .i64 p.how, .int .i64 p.least, .int .i64 p.most] 73)) w.heap.size p := by
  have h := Blk.new w 73 #[.int .i64 p.field, .int .i64 p.at_, .int .i64 p.bits, .int .i64 p.how, .int .i64 p.least, .int .i64 p.most]
  exact ⟨h.cell rfl, h.cell rfl, h.cell rfl, h.cell rfl, h.cell rfl, h.cell rfl⟩
theorem PlS.below {W W' : World} {n b : Nat} {p : Plc} (h : PlS W b p) (hb : Below n W W') (hn : b < n) : PlS W' b p := by
  obtain ⟨c0, c1, c2, c3, c4, c5⟩ := h
  exact ⟨(hb.cell (p := ⟨b, 0, none⟩) hn).trans c0, (hb.cell (p := ⟨b, 1, none⟩) hn).trans c1, (hb.cell (p := ⟨b, 2, none⟩) hn).trans c2, (hb.cell (p := ⟨b, 3, none⟩) hn).trans c3, (hb.cell (p := ⟨b, 4, none⟩) hn).trans c4, (hb.cell (p := ⟨b, 5, none⟩) hn).trans c5⟩
theorem lay_val {a b m : Nat} {x : Int} (hb : b ≤ 31) (hab : a + b ≤ 32) (hm : (x % 4294967296).toNat % 2 ^ b = m) :
    IntKind.u32.wrap (bits BinOp.and IntKind.u32 (IntKind.u32.wrap x) ((2 ^ b - 1 : Nat) : Int) * 2 ^ min a 32) = ((m * 2 ^ a : Nat) : Int) := by
  have e1 : IntKind.u32.wrap x = (((x % 4294967296).toNat : Nat) : Int) := by rw [IntKind.wrap_u32]; omega
  have hlt : (x % 4294967296).toNat < 2 ^ 32 := by omega
  have hpos : 0 < 2 ^ b := Nat.two_pow_pos b
  have h2 : (2 : Nat) ^ b ≤ 2 ^ 31 := Nat.pow_le_pow_right (by decide) hb
  rw [e1, (bits_nat .u32 32 (by decide) (fun n h0 h1 => by rw [IntKind.wrap_u32]; omega) _ (2 ^ b - 1) hlt (by omega)).1, Nat.and_two_pow_sub_one_eq_mod, hm, Nat.min_eq_left (by omega)]
  have h3 : m * 2 ^ a < 2 ^ 32 := by
    have h4 : m < 2 ^ b := by rw [← hm]; exact Nat.mod_lt _ hpos
    exact Nat.lt_of_lt_of_le (Nat.mul_lt_mul_of_pos_right h4 (Nat.two_pow_pos a)) (by rw [← Nat.pow_add]; exact Nat.pow_le_pow_right (by decide) (by omega))
  have e2 : ((m : Nat) : Int) * 2 ^ a = ((m * 2 ^ a : Nat) : Int) := by push_cast; rfl
  rw [e2, IntKind.wrap_u32]
  omega
theorem xor_val (n : Int) (h0 : 0 ≤ n) (h1 : n ≤ 15) : bits BinOp.xor IntKind.i64 n 1 = if n % 2 = 0 then n + 1 else n - 1 := by
  have h : ∀ k : Fin 16, bits BinOp.xor IntKind.i64 (k.1 : Int) 1 = if (k.1 : Int) % 2 = 0 then (k.1 : Int) + 1 else (k.1 : Int) - 1 := by decide +kernel
  have := h ⟨n.toNat, by omega⟩
  have e : ((n.toNat : Nat) : Int) = n := by omega
  simpa only [e] using this
theorem dbl_val (n : Int) (h0 : 1 ≤ n) (h1 : n ≤ 63) : bits BinOp.or IntKind.i64 ((64 - n) * 64) (63 - n) = (64 - n) * 64 + (63 - n) := by
  have h : ∀ k : Fin 64, 1 ≤ k.1 → bits BinOp.or IntKind.i64 ((64 - (k.1 : Int)) * 64) (63 - (k.1 : Int)) = (64 - (k.1 : Int)) * 64 + (63 - (k.1 : Int)) := by decide +kernel
  have := h ⟨n.toNat, by omega⟩ (by show 1 ≤ n.toNat; omega)
  have e : ((n.toNat : Nat) : Int) = n := by omega
  simpa only [e] using this
set_option maxRecDepth 100000 in
set_option maxHeartbeats 4000000 in
theorem cdPLay_calls (p : Plc) (n : Int) (w : World) (hp : PlOk p) (hb : p.bits ≤ 31) (ht : takesB p n = true) :
    Calls Tryd.prog 44 #[plV p, .int .i64 n] w fun e w' => e = .returned (.int .u32 ((layP p n : Nat) : Int)) ∧ Below w.heap.size w w' := by
  have hS := PlS.new w p
  have hBA := (Below.refl w.heap.size w).alloc (Nat.le_refl _) (.cells #[.int .i64 p.field, .int .i64 p.at_, .int .i64 p.bits, .int .i64 p.how, .int .i64 p.least, .int .i64 p.most] 73)
  have HZ : Hid (∀ W, Below (w.heap.size + 1) (w.alloc (.cells #[.int .i64 p.field, .int .i64 p.at_, .int .i64 p.bits, .int .i64 p.how, .int .i64 p.least, .int .i64 p.most] 73)) W → PlS W w.heap.size p ∧ Below w.heap.size w W) := fun W hW => ⟨hS.below hW (by omega), hBA.trans (hW.mono (by omega))⟩
  have hcall := cdOnes_calls p
  obtain ⟨c0, c1, c2, c3, c4, c5⟩ := hS
  clear hBA
  unfold plV at *
  by_cases h1 : p.how = 1
  · obtain ⟨o1, o2, o3⟩ := hp.one h1
    obtain ⟨t1, t2, -⟩ := (takes_iff p n).1 ht
    have b1 : 0 ≤ n := by omega
    have b2 : n ≤ 32760 := by omega
    have e1 : ((p.how : Int) == 1) = true := by simp [h1]
    have H1 := hid_of h1
    have HP := hid_of hp
    clear h1 o1 o2 o3 t1 t2 ht hp
    go_enter Tryd.func44, Tryd.ntmps44
    go_wp2_with fail
    go_region_held3 (fun W => W.cell? ⟨w.heap.size, 0, none⟩ = some (.int .i64 p.field) ∧ W.cell? ⟨w.heap.size, 1, none⟩ = some (.int .i64 p.at_) ∧ W.cell? ⟨w.heap.size, 2, none⟩ = some (.int .i64 p.bits) ∧ W.cell? ⟨w.heap.size, 3, none⟩ = some (.int .i64 p.how) ∧ W.cell? ⟨w.heap.size, 4, none⟩ = some (.int .i64 p.least) ∧ W.cell? ⟨w.heap.size, 5, none⟩ = some (.int .i64 p.most)) (first | assumption | exact ⟨c0, c1, c2, c3, c4, c5⟩ | exact hW5.1) (first | (go_at_call 41; refine (hcall _ hb).mono ?_; rintro e w5 ⟨rfl, hB5⟩; have hW5 := HZ.out w5 ((Below.refl _ _).drew.trans (hB5.mono (by simp)))))
    go_wp2_with fail
    go_ret
    refine ⟨ret_int ?_, hW5.2⟩
    rw [lay_val hb HP.out.top rfl]
    unfold layP numP
    rw [if_pos H1.out, show n / 8 % 4294967296 = n / 8 by omega]
  · by_cases h2 : p.how = 2
    · obtain ⟨o1, o2, o3⟩ := hp.two h2
      obtain ⟨t1, t2, -⟩ := (takes_iff p n).1 ht
      have b1 : 0 ≤ n := by omega
      have b2 : n ≤ 13 := by omega
      have e1 : ((p.how : Int) == 1) = false := by simp; omega
      have e2 : ((p.how : Int) == 2) = true := by simp [h2]
      have H2 := hid_of h2
      have HP := hid_of hp
      clear h1 h2 o1 o2 o3 t1 t2 ht hp
      go_enter Tryd.func44, Tryd.ntmps44
      go_wp2_with fail
      go_region_held3 (fun W => W.cell? ⟨w.heap.size, 0, none⟩ = some (.int .i64 p.field) ∧ W.cell? ⟨w.heap.size, 1, none⟩ = some (.int .i64 p.at_) ∧ W.cell? ⟨w.heap.size, 2, none⟩ = some (.int .i64 p.bits) ∧ W.cell? ⟨w.heap.size, 3, none⟩ = some (.int .i64 p.how) ∧ W.cell? ⟨w.heap.size, 4, none⟩ = some (.int .i64 p.least) ∧ W.cell? ⟨w.heap.size, 5, none⟩ = some (.int .i64 p.most)) (first | assumption | exact ⟨c0, c1, c2, c3, c4, c5⟩ | exact hW5.1) (first | (go_at_call 41; refine (hcall _ hb).mono ?_; rintro e w5 ⟨rfl, hB5⟩; have hW5 := HZ.out w5 ((Below.refl _ _).drew.trans (hB5.mono (by simp)))))
      go_wp2_with fail
      go_ret
      refine ⟨ret_int ?_, hW5.2⟩
      rw [xor_val n b1 (by omega), lay_val hb HP.out.top rfl]
      unfold layP numP
      rw [if_neg (show ¬ p.how = 1 by rw [H2.out]; decide), if_pos H2.out, show (if n % 2 = 0 then n + 1 else n - 1) % 4294967296 = (if n % 2 = 0 then n + 1 else n - 1) by split <;> omega]
    · by_cases h3 : p.how = 3
      · obtain ⟨o1, o2, o3⟩ := hp.three h3
        obtain ⟨t1, t2, -⟩ := (takes_iff p n).1 ht
        have b1 : 1 ≤ n := by omega
        have b2 : n ≤ 63 := by omega
        have e1 : ((p.how : Int) == 1) = false := by simp; omega
        have e2 : ((p.how : Int) == 2) = false := by simp; omega
        have e3 : ((p.how : Int) == 3) = true := by simp [h3]
        have H3 := hid_of h3
        have HP := hid_of hp
        clear h1 h2 h3 o1 o2 o3 t1 t2 ht hp
        go_enter Tryd.func44, Tryd.ntmps44
        go_wp2_with fail
        go_region_held3 (fun W => W.cell? ⟨w.heap.size, 0, none⟩ = some (.int .i64 p.field) ∧ W.cell? ⟨w.heap.size, 1, none⟩ = some (.int .i64 p.at_) ∧ W.cell? ⟨w.heap.size, 2, none⟩ = some (.int .i64 p.bits) ∧ W.cell? ⟨w.heap.size, 3, none⟩ = some (.int .i64 p.how) ∧ W.cell? ⟨w.heap.size, 4, none⟩ = some (.int .i64 p.least) ∧ W.cell? ⟨w.heap.size, 5, none⟩ = some (.int .i64 p.most)) (first | assumption | exact ⟨c0, c1, c2, c3, c4, c5⟩ | exact hW5.1) (first | (go_at_call 41; refine (hcall _ hb).mono ?_; rintro e w5 ⟨rfl, hB5⟩; have hW5 := HZ.out w5 ((Below.refl _ _).drew.trans (hB5.mono (by simp)))))
        go_wp2_with fail
        go_ret
        refine ⟨ret_int ?_, hW5.2⟩
        rw [dbl_val n b1 b2, lay_val hb HP.out.top rfl]
        unfold layP numP
        rw [if_neg (show ¬ p.how = 1 by rw [H3.out]; decide), if_neg (show ¬ p.how = 2 by rw [H3.out]; decide), if_pos H3.out, show ((64 - n) * 64 + (63 - n)) % 4294967296 = (64 - n) * 64 + (63 - n) by omega]
      · have e1 : ((p.how : Int) == 1) = false := by simp; omega
        have e2 : ((p.how : Int) == 2) = false := by simp; omega
        have e3 : ((p.how : Int) == 3) = false := by simp; omega
        go_enter Tryd.func44, Tryd.ntmps44
        go_wp2_with fail
        go_region_held3 (fun W => W.cell? ⟨w.heap.size, 0, none⟩ = some (.int .i64 p.field) ∧ W.cell? ⟨w.heap.size, 1, none⟩ = some (.int .i64 p.at_) ∧ W.cell? ⟨w.heap.size, 2, none⟩ = some (.int .i64 p.bits) ∧ W.cell? ⟨w.heap.size, 3, none⟩ = some (.int .i64 p.how) ∧ W.cell? ⟨w.heap.size, 4, none⟩ = some (.int .i64 p.least) ∧ W.cell? ⟨w.heap.size, 5, none⟩ = some (.int .i64 p.most)) (first | assumption | exact ⟨c0, c1, c2, c3, c4, c5⟩ | exact hW5.1) (first | (go_at_call 41; refine (hcall _ hb).mono ?_; rintro e w5 ⟨rfl, hB5⟩; have hW5 := HZ.out w5 ((Below.refl _ _).drew.trans (hB5.mono (by simp)))))
        go_wp2_with fail
        go_ret
        refine ⟨ret_int ?_, hW5.2⟩
        rw [lay_val hb hp.top rfl]
        unfold layP numP
        rw [if_neg h1, if_neg h2, if_neg h3]
theorem ext_val {a b w : Nat} (hb : b ≤ 31) (hw : w < 2 ^ 32) : bits BinOp.and IntKind.u32 ((w : Int) / 2 ^ a) ((2 ^ b - 1 : Nat) : Int) = ((ext a b w : Nat) : Int) := by
  have e1 : (w : Int) / 2 ^ a = ((w / 2 ^ a : Nat) : Int) := by push_cast; rfl
  have h2 : (2 : Nat) ^ b ≤ 2 ^ 31 := Nat.pow_le_pow_right (by decide) hb
  have h3 : w / 2 ^ a < 2 ^ 32 := Nat.lt_of_le_of_lt (Nat.div_le_self _ _) hw
  rw [e1, (bits_nat .u32 32 (by decide) (fun n h0 h1 => by rw [IntKind.wrap_u32]; omega) _ (2 ^ b - 1) h3 (by omega)).1, Nat.and_two_pow_sub_one_eq_mod]
  rfl
set_option maxRecDepth 100000 in
set_option maxHeartbeats 4000000 in
theorem cdPRead_calls (p : Plc) (x : Nat) (w : World) (hp : PlOk p) (hb : p.bits ≤ 31) (ha : p.at_ ≤ 31) (hx : x < 2 ^ 32) :
    Calls Tryd.prog 34 #[plV p, .int .u32 x] w fun e w' => e = .returned (.int .i64 (readP p x)) ∧ Below w.heap.size w w' := by
  generalize hr : readP p x = r
  have HR : Hid ((if p.how = 1 then ((ext p.at_ p.bits x : Nat) : Int) * 8 else if p.how = 2 then (if ((ext p.at_ p.bits x : Nat) : Int) % 2 = 0 then ((ext p.at_ p.bits x : Nat) : Int) + 1 else ((ext p.at_ p.bits x : Nat) : Int) - 1) else if p.how = 3 then 63 - ((ext p.at_ p.bits x : Nat) : Int) % 64 else if p.least < 0 ∧ p.most < ((ext p.at_ p.bits x : Nat) : Int) then ((ext p.at_ p.bits x : Nat) : Int) - 2 ^ p.bits else ((ext p.at_ p.bits x : Nat) : Int)) = r) := hr
  clear hr
  have hS := PlS.new w p
  have hBA := (Below.refl w.heap.size w).alloc (Nat.le_refl _) (.cells #[.int .i64 p.field, .int .i64 p.at_, .int .i64 p.bits, .int .i64 p.how, .int .i64 p.least, .int .i64 p.most] 73)
  have HZ : Hid (∀ W, Below (w.heap.size + 1) (w.alloc (.cells #[.int .i64 p.field, .int .i64 p.at_, .int .i64 p.bits, .int .i64 p.how, .int .i64 p.least, .int .i64 p.most] 73)) W → PlS W w.heap.size p ∧ Below w.heap.size w W) := fun W hW => ⟨hS.below hW (by omega), hBA.trans (hW.mono (by omega))⟩
  have hcall := cdOnes_calls p
  obtain ⟨c0, c1, c2, c3, c4, c5⟩ := hS
  clear hBA
  unfold plV at *
  go_enter Tryd.func34, Tryd.ntmps34
  go_wp2_with fail
  go_region_held3 (fun W => W.cell? ⟨w.heap.size, 0, none⟩ = some (.int .i64 p.field) ∧ W.cell? ⟨w.heap.size, 1, none⟩ = some (.int .i64 p.at_) ∧ W.cell? ⟨w.heap.size, 2, none⟩ = some (.int .i64 p.bits) ∧ W.cell? ⟨w.heap.size, 3, none⟩ = some (.int .i64 p.how) ∧ W.cell? ⟨w.heap.size, 4, none⟩ = some (.int .i64 p.least) ∧ W.cell? ⟨w.heap.size, 5, none⟩ = some (.int .i64 p.most)) (first | assumption | exact ⟨c0, c1, c2, c3, c4, c5⟩ | exact hW5.1) (first | (go_at_call 41; refine (hcall _ hb).mono ?_; rintro e w5 ⟨rfl, hB5⟩; have hW5 := HZ.out w5 ((Below.refl _ _).drew.trans (hB5.mono (by simp)))))
  obtain ⟨⟨y0, y1, y2, y3, y4, y5⟩, hB⟩ := hW5
  clear hB5 HZ c0 c1 c2 c3 c4 c5 hcall
  rw [ext_val hb hx]
  have hxl : ext p.at_ p.bits x < 2 ^ 31 := Nat.lt_of_lt_of_le (Nat.mod_lt _ (Nat.two_pow_pos _)) (Nat.pow_le_pow_right (by decide) hb)
  have hxi : IntKind.i64.wrap ((ext p.at_ p.bits x : Nat) : Int) = ((ext p.at_ p.bits x : Nat) : Int) := by rw [IntKind.wrap_i64]; omega
  rw [hxi]
  clear hxi
  generalize hn : ext p.at_ p.bits x = n at *
  have HN := hid_of hn
  clear hn
  have hp3 := hp.two
  have HP := hid_of hp
  clear hp
  by_cases h1 : p.how = 1
  · have e1 : ((p.how : Int) == 1) = true := by simp [h1]
    have H1 := hid_of h1
    clear h1 hp3
    go_wp2_with fail
    go_ret
    exact ⟨ret_int (by rw [← HR.out, if_pos H1.out]), hB⟩
  · have e1 : ((p.how : Int) == 1) = false := by simp; omega
    have N1 := hid_of h1
    by_cases h2 : p.how = 2
    · have e2 : ((p.how : Int) == 2) = true := by simp [h2]
      obtain ⟨-, -, q3⟩ := hp3 h2
      have hn15 : n ≤ 15 := by
        have : ext p.at_ p.bits x < 2 ^ p.bits := Nat.mod_lt _ (Nat.two_pow_pos _)
        rw [HN.out, q3] at this
        omega
      have H2 := hid_of h2
      clear h1 h2 hp3 q3
      go_wp2_with fail
      go_ret
      exact ⟨ret_int (by rw [xor_val n (by omega) (by omega), ← HR.out, if_neg N1.out, if_pos H2.out]), hB⟩
    · have e2 : ((p.how : Int) == 2) = false := by simp; omega
      have N2 := hid_of h2
      by_cases h3 : p.how = 3
      · have e3 : ((p.how : Int) == 3) = true := by simp [h3]
        have H3 := hid_of h3
        clear h1 h2 h3 hp3
        go_wp2_with fail
        go_ret
        refine ⟨ret_int ?_, hB⟩
        rw [← HR.out, if_neg N1.out, if_neg N2.out, if_pos H3.out]
        have e := bits_mask .i64 63 (by decide) (fun n h0 h1 => by rw [IntKind.wrap_i64]; omega) 6 (by decide) (n : Int) (by omega) (by omega)
        rw [show (2 : Int) ^ 6 - 1 = 63 by decide, show (2 : Int) ^ 6 = 64 by decide] at e
        rw [e]
        unfold wrap64
        omega
      · have e3 : ((p.how : Int) == 3) = false := by simp; omega
        have N3 := hid_of h3
        clear h1 h2 h3 hp3
        by_cases h4 : p.least < 0
        · by_cases h5 : p.most < n
          · have H5 : Hid (p.least < 0 ∧ p.most < (n : Int)) := ⟨h4, h5⟩
            go_wp2_with fail
            go_ret
            refine ⟨ret_int ?_, hB⟩
            rw [← HR.out, if_neg N1.out, if_neg N2.out, if_neg N3.out, if_pos H5.out]
            have h6 : (2 : Nat) ^ p.bits ≤ 2 ^ 31 := Nat.pow_le_pow_right (by decide) hb
            have h7 : ((2 : Int) ^ p.bits) = ((2 ^ p.bits : Nat) : Int) := by push_cast; rfl
            rw [h7]
            generalize 2 ^ p.bits = z at *
            unfold wrap64
            omega
          · have H5 : Hid (¬ (p.least < 0 ∧ p.most < (n : Int))) := fun h => h5 h.2
            go_wp2_with fail
            go_ret
            exact ⟨ret_int (by rw [← HR.out, if_neg N1.out, if_neg N2.out, if_neg N3.out, if_neg H5.out]), hB⟩
        · have H5 : Hid (¬ (p.least < 0 ∧ p.most < (n : Int))) := fun h => h4 h.1
          go_wp2_with fail
          go_ret
          exact ⟨ret_int (by rw [← HR.out, if_neg N1.out, if_neg N2.out, if_neg N3.out, if_neg H5.out]), hB⟩
end Go.Proofs.YtbggcofnopaloabDoor
namespace Go.Proofs.YtbggcofnopaloabDoor
open Go.RowKit Sx
theorem Blk.new2 (w : World) (o : Obj) (t : TypeId) (cs : Array Value) : Blk ((w.alloc o).alloc (.cells cs t)) (w.heap.size + 1) t cs := by
  have := Blk.new (w.alloc o) t cs
  simpa using this
def insV (i : Ins) : Value := .agg #[.int .i64 i.op, .int .i64 i.rd, .int .i64 i.rn, .int .i64 i.rm, .int .i64 i.imm, .int .i64 i.cond]
def insC (i : Ins) : Array Value := #[.int .i64 i.op, .int .i64 i.rd, .int .i64 i.rn, .int .i64 i.rm, .int .i64 i.imm, .int .i64 i.cond]
structure InsOk (i : Ins) : Prop where
  rd : -9223372036854775808 ≤ i.rd ∧ i.rd ≤ 9223372036854775807
  rn : -9223372036854775808 ≤ i.rn ∧ i.rn ≤ 9223372036854775807
  rm : -9223372036854775808 ≤ i.rm ∧ i.rm ≤ 9223372036854775807
  imm : -9223372036854775808 ≤ i.imm ∧ i.imm ≤ 9223372036854775807
  cond : -9223372036854775808 ≤ i.cond ∧ i.cond ≤ 9223372036854775807
set_option maxRecDepth 100000 in
set_option maxHeartbeats 4000000 in
theorem cdFieldOf_calls (i : Ins) (f : Nat) (w : World) (hf : f < 6) :
    Calls Tryd.prog 43 #[insV i, .int .i64 f] w fun e w' => e = .returned (.int .i64 (i.fld f)) ∧ Below w.heap.size w w' := by
  obtain ⟨op, rd, rn, rm, imm, cond⟩ := i
  unfold insV Ins.fld
  dsimp only
  match f, hf with
  | 0, _ | 1, _ | 2, _ | 3, _ | 4, _ | 5, _ =>
    go_enter Tryd.func43, Tryd.ntmps43
    go_wp2_with fail
    go_ret
    exact ⟨rfl, (Below.refl _ _).alloc (Nat.le_refl _) _⟩
  | f + 6, h => exact absurd h (by omega)
set_option maxRecDepth 100000 in
set_option maxHeartbeats 4000000 in
theorem cdWith_calls (i : Ins) (f : Nat) (n : Int) (w : World) (hf : f < 6) :
    Calls Tryd.prog 33 #[insV i, .int .i64 f, .int .i64 n] w fun e w' => e = .returned (insV (i.put f n)) ∧ Below w.heap.size w w' := by
  obtain ⟨op, rd, rn, rm, imm, cond⟩ := i
  unfold insV Ins.put
  dsimp only
  match f, hf with
  | 0, _ | 1, _ | 2, _ | 3, _ | 4, _ | 5, _ =>
    go_enter Tryd.func33, Tryd.ntmps33
    go_wp2_with fail
    exact bodyPost_ret (results_cell_row rfl _ _ (w.heap.size + 1) 25 _ (0, 0) _ rfl (Blk.new2 w _ _ _) Tryd.underlying25 rfl (by kernel_rfl)) rfl ⟨rfl, ((Below.refl _ _).alloc (Nat.le_refl _) _).alloc (by simp) _⟩
  | f + 6, h => exact absurd h (by omega)
set_option maxRecDepth 100000 in
set_option maxHeartbeats 4000000 in
theorem cdPlaceOf_calls (q : Nat) (w : World) (hq : q < 18) :
    Calls Tryd.prog 32 #[.int .i64 q] w fun e w' => e = .returned (plV (plc q)) ∧ Below w.heap.size w w' := by
  match q, hq with
  | 0, _ | 1, _ | 2, _ | 3, _ | 4, _ | 5, _ | 6, _ | 7, _ | 8, _ | 9, _ | 10, _ | 11, _ | 12, _ | 13, _ | 14, _ | 15, _ | 16, _ | 17, _ =>
    go_enter Tryd.func32, Tryd.ntmps32
    go_wp2_with fail
    exact bodyPost_ret (results_cell_row rfl _ _ w.heap.size 73 _ (0, 0) _ rfl (Blk.new w _ _) Tryd.underlying73 rfl (by kernel_rfl)) rfl ⟨rfl, (Below.refl _ _).alloc (Nat.le_refl _) _⟩
  | q + 18, h => exact absurd h (by omega)
end Go.Proofs.YtbggcofnopaloabDoor
namespace Go.Proofs.YtbggcofnopaloabDoor
open Go.RowKit Sx
def fmV (f : Fm) : Value := .agg #[.int .u32 f.mask, .int .i64 f.p0, .int .i64 f.p1, .int .i64 f.p2, .bool f.apart]
def fmC (f : Fm) : Array Value := #[.int .u32 f.mask, .int .i64 f.p0, .int .i64 f.p1, .int .i64 f.p2, .bool f.apart]
structure FmOk (f : Fm) : Prop where
  p0 : f.p0 < 18
  p1 : f.p1 < 18
  p2 : f.p2 < 18
theorem fm_ok (n : Nat) : FmOk (fm n) := by
  by_cases h : n < 17
  · have : ∀ n : Fin 17, (fm n.1).p0 < 18 ∧ (fm n.1).p1 < 18 ∧ (fm n.1).p2 < 18 := by decide +kernel
    obtain ⟨a, b, c⟩ := this ⟨n, h⟩
    exact ⟨a, b, c⟩
  · have e : fm n = ⟨0, 0, 0, 0, false⟩ := by
      unfold fm
      rw [List.getD_eq_getElem?_getD, List.getElem?_eq_none (by simp [fms]; omega)]
      rfl
    rw [e]
    exact ⟨by decide, by decide, by decide⟩
theorem plc_low (q : Nat) : (plc q).bits ≤ 31 ∧ (plc q).at_ ≤ 31 ∧ (plc q).field < 6 := by
  by_cases h : q < 18
  · have : ∀ q : Fin 18, (plc q.1).bits ≤ 31 ∧ (plc q.1).at_ ≤ 31 ∧ (plc q.1).field < 6 := by decide +kernel
    exact this ⟨q, h⟩
  · have e : plc q = ⟨0, 0, 0, 0, 0, 0⟩ := by
      unfold plc
      rw [List.getD_eq_getElem?_getD, List.getElem?_eq_none (by simp [plcs]; omega)]
      rfl
    rw [e]
    decide
def plF (f : Fm) (j : Nat) : Nat := [f.p0, f.p1, f.p2].getD j 0
theorem plF_lt {f : Fm} (h : FmOk f) (j : Nat) : plF f j < 18 := by
  match j with
  | 0 => exact h.p0
  | 1 => exact h.p1
  | 2 => exact h.p2
  | j + 3 => show 0 < 18; decide
def InS (W : World) (b : Nat) (i : Ins) : Prop := W.cell? ⟨b, 0, none⟩ = some (.int .i64 i.op) ∧ W.cell? ⟨b, 1, none⟩ = some (.int .i64 i.rd) ∧ W.cell? ⟨b, 2, none⟩ = some (.int .i64 i.rn) ∧ W.cell? ⟨b, 3, none⟩ = some (.int .i64 i.rm) ∧ W.cell? ⟨b, 4, none⟩ = some (.int .i64 i.imm) ∧ W.cell? ⟨b, 5, none⟩ = some (.int .i64 i.cond)
theorem InS.of {W : World} {b : Nat} {i : Ins} (h : Blk W b 25 (insC i)) : InS W b i := ⟨h.cell rfl, h.cell rfl, h.cell rfl, h.cell rfl, h.cell rfl, h.cell rfl⟩
theorem PlS.of {W : World} {b : Nat} {p : Plc} (h : Blk W b 73 #[.int .i64 p.field, .int .i64 p.at_, .int .i64 p.bits, .int .i64 p.how, .int .i64 p.least, .int .i64 p.most]) : PlS W b p := ⟨h.cell rfl, h.cell rfl, h.cell rfl, h.cell rfl, h.cell rfl, h.cell rfl⟩
theorem InS.below {W W' : World} {n b : Nat} {i : Ins} (h : InS W b i) (hb : Below n W W') (hn : b < n) : InS W' b i := by
  obtain ⟨c0, c1, c2, c3, c4, c5⟩ := h
  exact ⟨(hb.cell (p := ⟨b, 0, none⟩) hn).trans c0, (hb.cell (p := ⟨b, 1, none⟩) hn).trans c1, (hb.cell (p := ⟨b, 2, none⟩) hn).trans c2, (hb.cell (p := ⟨b, 3, none⟩) hn).trans c3, (hb.cell (p := ⟨b, 4, none⟩) hn).trans c4, (hb.cell (p := ⟨b, 5, none⟩) hn).trans c5⟩
theorem joinS {W : World} {b c : Nat} {p : Plc} {op rd rn rm imm cond : Int} (h : PlS W b p ∧ InS W c ⟨op, rd, rn, rm, imm, cond⟩) : W.cell? ⟨b, 0, none⟩ = some (.int .i64 p.field) ∧ W.cell? ⟨b, 1, none⟩ = some (.int .i64 p.at_) ∧ W.cell? ⟨b, 2, none⟩ = some (.int .i64 p.bits) ∧ W.cell? ⟨b, 3, none⟩ = some (.int .i64 p.how) ∧ W.cell? ⟨b, 4, none⟩ = some (.int .i64 p.least) ∧ W.cell? ⟨b, 5, none⟩ = some (.int .i64 p.most) ∧ W.cell? ⟨c, 0, none⟩ = some (.int .i64 op) ∧ W.cell? ⟨c, 1, none⟩ = some (.int .i64 rd) ∧ W.cell? ⟨c, 2, none⟩ = some (.int .i64 rn) ∧ W.cell? ⟨c, 3, none⟩ = some (.int .i64 rm) ∧ W.cell? ⟨c, 4, none⟩ = some (.int .i64 imm) ∧ W.cell? ⟨c, 5, none⟩ = some (.int .i64 cond) := by
  obtain ⟨⟨a0, a1, a2, a3, a4, a5⟩, b⟩ := h
  exact ⟨a0, a1, a2, a3, a4, a5, b⟩
theorem at3 (a b c : Nat) (j : Nat) (h : j < 3) (W : World) : (Instr.index 52 (.agg #[.int .i64 a, .int .i64 b, .int .i64 c]) (.int .i64 j)).run Tryd.prog W = .ok (.int .i64 (([a, b, c].getD j 0 : Nat) : Int)) W := by
  obtain rfl | rfl | rfl : j = 0 ∨ j = 1 ∨ j = 2 := by omega
  all_goals kernel_rfl
theorem plc_cells (q : Nat) (p : Plc) (hp : plc q = p) (w : World) (hq : q < 18) : Calls Tryd.prog 32 #[.int .i64 q] w fun e w' => e = .returned (.agg #[.int .i64 p.field, .int .i64 p.at_, .int .i64 p.bits, .int .i64 p.how, .int .i64 p.least, .int .i64 p.most]) ∧ Below w.heap.size w w' := by
  subst hp
  exact cdPlaceOf_calls q w hq
def layK (f : Fm) (i : Ins) : Nat → Nat
  | 0 => 0
  | j + 1 => layK f i j ||| layP (plc (plF f j)) (i.fld (plc (plF f j)).field)
theorem layK_lt (f : Fm) (i : Ins) : ∀ j, layK f i j < 2 ^ 32
  | 0 => by show 0 < 2 ^ 32; decide
  | j + 1 => Nat.or_lt_two_pow (layK_lt f i j) (layP_lt _ _)
theorem layK_3 (f : Fm) (i : Ins) : layK f i 3 = layF f i := by
  show ((0 ||| _) ||| _) ||| _ = _
  rw [Nat.zero_or]
  rfl
theorem or_u32 (a b : Nat) (ha : a < 2 ^ 32) (hb : b < 2 ^ 32) : bits BinOp.or IntKind.u32 (a : Int) (b : Int) = ((a ||| b : Nat) : Int) :=
  (bits_nat .u32 32 (by decide) (fun n h0 h1 => by rw [IntKind.wrap_u32]; omega) a b ha hb).2
set_option maxRecDepth 100000 in
set_option maxHeartbeats 4000000 in
theorem cdFLay_calls (f : Fm) (i : Ins) (w : World) (hf : FmOk f) (ht : ∀ j, j < 3 → takesB (plc (plF f j)) (i.fld (plc (plF f j)).field) = true) :
    Calls Tryd.prog 36 #[fmV f, insV i] w fun e w' => e = .returned (.int .u32 ((layF f i : Nat) : Int)) ∧ Below w.heap.size w w' := by
  have hI : Blk ((w.alloc (.cells (fmC f) 54)).alloc (.cells (insC i) 25)) (w.heap.size + 1) 25 (insC i) := Blk.new2 w _ _ _
  have hBI : Below w.heap.size w ((w.alloc (.cells (fmC f) 54)).alloc (.cells (insC i) 25)) := ((Below.refl _ _).alloc (Nat.le_refl _) _).alloc (by simp) _
  have HI := hid_of hI
  have HBI := hid_of hBI
  have HT := hid_of ht
  clear hI hBI ht
  unfold fmV insV
  obtain ⟨op, rd, rn, rm, imm, cond⟩ := i
  dsimp only
  go_enter Tryd.func36, Tryd.ntmps36
  go_wp2_with fail
  go_loopw [5, 11] (fun acc k wr => ∃ j : Nat, j ≤ 3 ∧ acc = .int .u32 ((layK f ⟨op, rd, rn, rm, imm, cond⟩ j : Nat) : Int) ∧ k = .int .i64 j ∧ Hid (Blk wr (w.heap.size + 1) 25 (insC ⟨op, rd, rn, rm, imm, cond⟩)) ∧ Hid (Below w.heap.size w wr)) (fun _ k _ => 3 - (intOf k).toNat)
  case atStart => exact ⟨0, by omega, rfl, rfl, HI, HBI⟩
  case round =>
    obtain ⟨j, hj, rfl, rfl, hI1, hB1⟩ := hrel
    by_cases h3 : j < 3
    · have ha := at3 f.p0 f.p1 f.p2 j h3
      have hq := plF_lt hf j
      have HTJ := hid_of (HT.out j h3)
      have HL : Hid (layK f ⟨op, rd, rn, rm, imm, cond⟩ (j + 1) = layK f ⟨op, rd, rn, rm, imm, cond⟩ j ||| layP (plc (plF f j)) (Ins.fld ⟨op, rd, rn, rm, imm, cond⟩ (plc (plF f j)).field)) := rfl
      have hok := plc_ok (plF f j)
      have hlow := plc_low (plF f j)
      have hq2 : [f.p0, f.p1, f.p2].getD j 0 = plF f j := rfl
      rw [hq2] at ha
      clear hq2
      generalize hpq : plF f j = q at *
      clear hpq
      generalize hpp : plc q = p at *
      have HPP := hid_of hpp
      clear hpp
      obtain ⟨q1, q2, q3⟩ := hlow
      have HLK := hid_of (layK_lt f ⟨op, rd, rn, rm, imm, cond⟩ j)
      have HLP : Hid (layP p (Ins.fld ⟨op, rd, rn, rm, imm, cond⟩ p.field) < 2 ^ 32) := by rw [Hid, ← HPP.out]; exact layP_lt _ _
      generalize hl2 : layK f ⟨op, rd, rn, rm, imm, cond⟩ (j + 1) = l2 at *
      have HL2 := hid_of hl2
      clear hl2
      generalize layK f ⟨op, rd, rn, rm, imm, cond⟩ j = l1 at *
      have hc1 : ∀ W, Calls Tryd.prog 43 #[.agg #[.int .i64 op, .int .i64 rd, .int .i64 rn, .int .i64 rm, .int .i64 imm, .int .i64 cond], .int .i64 p.field] W fun e w' => e = .returned (.int .i64 (Ins.fld ⟨op, rd, rn, rm, imm, cond⟩ p.field)) ∧ Below W.heap.size W w' := fun W => cdFieldOf_calls ⟨op, rd, rn, rm, imm, cond⟩ p.field W q3
      generalize hv : Ins.fld ⟨op, rd, rn, rm, imm, cond⟩ p.field = v at *
      clear hv
      have hc2 : ∀ W, Calls Tryd.prog 44 #[.agg #[.int .i64 p.field, .int .i64 p.at_, .int .i64 p.bits, .int .i64 p.how, .int .i64 p.least, .int .i64 p.most], .int .i64 v] W fun e w' => e = .returned (.int .u32 ((layP p v : Nat) : Int)) ∧ Below W.heap.size W w' := fun W => cdPLay_calls p v W hok q1 HTJ.out
      generalize hl3 : layP p v = l3 at *
      clear hl3
      have hor := or_u32 l1 l3 HLK.out HLP.out
      have hb2 : w.heap.size + 1 < wr.heap.size := hI1.out.lt
      go_wp2_with (first | (go_at_call 32; refine (plc_cells q p HPP.out _ hq).mono ?_; rintro e w3 ⟨rfl, hB3⟩))
      have hP4 := PlS.new w3 p
      have hI4 : Blk (w3.alloc (.cells #[.int .i64 p.field, .int .i64 p.at_, .int .i64 p.bits, .int .i64 p.how, .int .i64 p.least, .int .i64 p.most] 73)) (w.heap.size + 1) 25 (insC ⟨op, rd, rn, rm, imm, cond⟩) := (hI1.out.of_below hB3).alloc _
      have hB4 : Below w.heap.size w (w3.alloc (.cells #[.int .i64 p.field, .int .i64 p.at_, .int .i64 p.bits, .int .i64 p.how, .int .i64 p.least, .int .i64 p.most] 73)) := (hB1.out.trans (hB3.mono (by omega))).alloc (by have := hB1.out.size; have := hB3.size; omega) _
      obtain ⟨c0, c1, c2, c3, c4, c5⟩ := hP4
      obtain ⟨d0, d1, d2, d3, d4, d5⟩ := InS.of hI4
      have hsz : w.heap.size + 1 < w3.heap.size := by have := hB3.size; omega
      have HZ : Hid (∀ W, Below (w3.heap.size + 1) (w3.alloc (.cells #[.int .i64 p.field, .int .i64 p.at_, .int .i64 p.bits, .int .i64 p.how, .int .i64 p.least, .int .i64 p.most] 73)) W → (PlS W w3.heap.size p ∧ InS W (w.heap.size + 1) ⟨op, rd, rn, rm, imm, cond⟩) ∧ Blk W (w.heap.size + 1) 25 (insC ⟨op, rd, rn, rm, imm, cond⟩) ∧ Below w.heap.size w W) := fun W hW => ⟨⟨(PlS.new w3 p).below hW (by omega), (InS.of hI4).below hW (by omega)⟩, hI4.below hW (by omega), hB4.trans (hW.mono (by omega))⟩
      clear hB4 hI4 hB3
      dsimp only at d0 d1 d2 d3 d4 d5
      clear hok q1 q2 q3
      go_region_held3 (fun W => W.cell? ⟨w3.heap.size, 0, none⟩ = some (.int .i64 p.field) ∧ W.cell? ⟨w3.heap.size, 1, none⟩ = some (.int .i64 p.at_) ∧ W.cell? ⟨w3.heap.size, 2, none⟩ = some (.int .i64 p.bits) ∧ W.cell? ⟨w3.heap.size, 3, none⟩ = some (.int .i64 p.how) ∧ W.cell? ⟨w3.heap.size, 4, none⟩ = some (.int .i64 p.least) ∧ W.cell? ⟨w3.heap.size, 5, none⟩ = some (.int .i64 p.most) ∧ W.cell? ⟨w.heap.size + 1, 0, none⟩ = some (.int .i64 op) ∧ W.cell? ⟨w.heap.size + 1, 1, none⟩ = some (.int .i64 rd) ∧ W.cell? ⟨w.heap.size + 1, 2, none⟩ = some (.int .i64 rn) ∧ W.cell? ⟨w.heap.size + 1, 3, none⟩ = some (.int .i64 rm) ∧ W.cell? ⟨w.heap.size + 1, 4, none⟩ = some (.int .i64 imm) ∧ W.cell? ⟨w.heap.size + 1, 5, none⟩ = some (.int .i64 cond)) (first | assumption | exact ⟨c0, c1, c2, c3, c4, c5, d0, d1, d2, d3, d4, d5⟩ | exact hS5 | exact hS6) (first | (go_at_call 43; refine (hc1 _).mono ?_; rintro e w5 ⟨rfl, hB5⟩; have k5 : Below (w3.heap.size + 1) _ w5 := (Below.refl _ _).drew.trans (hB5.mono (by simp)); have hS5 := joinS (HZ.out w5 k5).1) | (go_at_call 44; refine (hc2 _).mono ?_; rintro e w6 ⟨rfl, hB6⟩; have k6 := k5.trans (hB6.mono (by have := k5.size; simpa using this)); have hS6 := joinS (HZ.out w6 k6).1))
      go_wp2_with fail
      refine ⟨⟨j + 1, by omega, ?_, by go_num, (HZ.out _ k6).2.1, (HZ.out _ k6).2.2⟩, by simp [intOf]; omega⟩
      rw [HL2.out, HL.out]
    · obtain rfl : j = 3 := by omega
      go_wp2_with fail
      go_ret
      exact ⟨ret_int (by rw [layK_3]), hB1.out⟩
end Go.Proofs.YtbggcofnopaloabDoor
