/- The contract of the reference's Lex. -/
import Derived.Test.YtkgppagpjbkhmaaDoorLxRef6
import Derived.Test.YtkgppagpjbkhmaaDoorLxPlaces
namespace Go.Proofs.YtkgppagpjbkhmaaDoor
open Go.RowKit Go.Shelf

theorem slice_bytes2 (w : World) (x : Option Addr) (n cap lo hi : Nat) (h1 : lo ≤ hi) (h : hi ≤ cap) : (Instr.slice 32 (.slice x n cap) (some (.int .i64 ((lo : Nat) : Int))) (some (.int .i64 ((hi : Nat) : Int))) none).run Tryd.prog w = .ok (sliced x lo hi cap 1) w := by
  obtain ⟨m, rfl⟩ : ∃ m, hi = lo + m := ⟨hi - lo, by omega⟩
  have := slice_bytes w x n cap lo m h
  rw [← Int.natCast_add] at this
  exact this
theorem sub_bytes2 {w : World} {x : Option Addr} {cap lo hi : Nat} {s : ByteArray} (h : BytesR w (.slice x s.size cap) s) (hc : s.size ≤ cap) (h1 : lo ≤ hi) (hl : hi ≤ s.size) : BytesR w (sliced x lo hi cap 1) (s.extract lo hi) := by
  obtain ⟨m, rfl⟩ : ∃ m, hi = lo + m := ⟨hi - lo, by omega⟩
  exact sub_bytes h hc hl
theorem signs_short : (signsL.all fun l => decide (0 < l.length) && decide (l.length ≤ 2)) = true := by decide
/-- What the text's region reads. -/
def TxH (rb gr jn p1 pn : Nat) (vs : Value) (tx : ByteArray) (w' : World) : Prop := w'.cell? ⟨rb, 1, none⟩ = some (.int .i64 ((p1 : Nat) : Int)) ∧ w'.cell? ⟨gr, jn * 5 + 1, none⟩ = some (.int .i64 ((pn : Nat) : Int)) ∧ (convert 32 9 vs).run Tryd.prog w' = .ok (.string tx) w'
theorem txh_of {w W : World} {B gr capr : Nat} {s : ByteArray} {v : Value} {acc : List Tok} {rb tb : Nat} {x : Rn} {t : Tok} (h : RSt w W B gr capr s v acc rb tb x t) {xv : Option Addr} {cap jn pn l k : Nat} (hv : BytesR w (.slice xv s.size cap) s) (hcap : s.size ≤ cap) (hB : Bnd s jn pn l k) (hp : x.at_ ≤ pn) : TxH rb gr jn x.at_ pn (sliced xv x.at_ pn cap 1) (s.extract x.at_ pn) W := by
  obtain ⟨y, hy, hy1, _⟩ := hB.get
  have := (h.rs.tab.at hy).2.1
  rw [hy1] at this
  exact ⟨h.rblk.cell rfl, this, conv_bytes (sub_bytes2 (hv.below h.rs.below) hcap hp hB.1)⟩
set_option maxRecDepth 100000 in
set_option maxHeartbeats 16000000 in
theorem rLex_calls (xv : Option Addr) (cap : Nat) (s : ByteArray) (w : World) (hv : BytesR w (.slice xv s.size cap) s) (hcap : s.size ≤ cap) :
    Calls Tryd.prog 13 #[.slice xv s.size cap] w (RLexAns w (lexA s)) := by
  obtain ⟨i0, hi, hz0, hz1, hz2⟩ := info_parts Tryd.infortok
  have hWA : Below w.heap.size w (w.alloc (.cells #[.int .i64 0, .int .i64 0, .int .i64 0] 38)) := (Below.refl _ _).alloc (Nat.le_refl _) _
  by_cases hbig : 65536 < s.size
  · have k1 : (65536 : Int) < ((s.size : Nat) : Int) := by omega
    have HE : Hid (lexA s = .error ⟨32, 1, 1⟩) := by show _ = _; unfold lexA; rw [if_pos hbig]
    go_enter Tryd.func13, Tryd.ntmps13
    go_wp2_with fail
    exact bodyPost_ret (ret_rlex rfl rfl ⟨32, 1, 1⟩ (Blk.new w _ _)) rfl (by rw [HE.out]; exact ⟨rfl, (Below.refl _ _).alloc (Nat.le_refl _) _⟩)
  · have hs : s.size ≤ 65536 := by omega
    have k1 : ¬ (65536 : Int) < ((s.size : Nat) : Int) := by omega
    have hfew := runes_few s hs
    have h0 := runesK_pos s s.size 0 1 1
    change 0 < (runesA s).length at h0
    have HR := hid_of (Runes_calls _ _ _ (hv.below hWA) (by omega))
    have hmk := fun W => make_rtoks W
    go_enter Tryd.func13, Tryd.ntmps13
    go_wp2_with fail
    refine HR.out.mono ?_
    rintro e w1 ⟨vr, rfl, hownr, hB1⟩
    obtain ⟨gr, capr, rfl⟩ := rn_form hownr h0
    rw [World.size_alloc] at hownr
    have hW1 := below_step hWA hWA.size hB1
    have hF1 := Blk.of_below (Blk.new w 38 #[.int .i64 0, .int .i64 0, .int .i64 0]) hB1
    have hgl := hownr.lt gr rfl
    have hRS : RS w (w1.alloc (.cells #[] 44)) w1.heap.size gr capr s (.slice (some ⟨w1.heap.size, 0, none⟩) 0 0) [] :=
      ⟨RTab.below hownr ((Below.refl _ _).alloc (Nat.le_refl _) _), ⟨rfl, .inr ⟨w1.heap.size, 0, #[], rfl, Nat.le_refl _, Blk.new w1 _ _, Nat.le_refl _, by unfold maxLen; omega, rfl, rfl⟩⟩, hF1.alloc _, hW1.alloc hW1.size _, by have := hB1.size; simp at this ⊢; omega⟩
    have HRS := hid_of hRS
    have HLW := hid_of (LexW.start hs)
    have hB1s := hB1.size
    rw [World.size_alloc] at hB1s
    clear HR hWA hRS
    go_wp2_with fail
    clear hmk hF1 hW1 hB1 hownr
    generalize w1.heap.size = B at *
    go_loopg [5, 6] ((runesA s).length) (fun f vo vk wr => ∃ (j p l k : Nat) (acc : List Tok), vk = .int .i64 ((j : Nat) : Int) ∧ Hid ((runesA s).length = j + f) ∧ acc.length ≤ p ∧ Hid (LexW s j p l k acc) ∧ Hid (RS w wr B gr capr s vo acc))
    case atStart => exact ⟨0, 0, 1, 1, [], rfl, (Nat.zero_add _).symm, Nat.le_refl _, HLW.out, HRS.out⟩
    case round =>
      clear HLW HRS
      obtain ⟨j, p, l, k, acc, rfl, HJF, hacc, HL, HS⟩ := hrel
      have hLB := HL.out.1
      have hjl := hLB.lt
      have HK := hid_of (rSkipped_calls (.slice xv s.size cap) _ gr capr s wr (hv.below HS.out.below) HS.out.tab hs j p l k hLB)
      go_wp2_with fail
      refine HK.out.mono ?_
      rintro e w2 ⟨⟨j1, p1, l1, k1, rfl, hbet, hB1⟩, hb2⟩
      have hS2 := HS.out.to hb2
      have hj1 := hB1.lt
      have hp1 := hB1.1
      have hpp : p ≤ p1 := bet_le hbet hLB.1 hp1
      have HB := hid_of hbet
      have hb2s := hb2.size
      clear HK hbet hb2
      have n0 : (0 : Int) ≤ ((j1 : Nat) : Int) := by omega
      have n1 : ((j1 : Nat) : Int) < (((runesA s).length : Nat) : Int) := by omega
      by_cases hpe : p1 < s.size
      · have hx := rune_x hB1 hpe
        obtain ⟨z0, z1, z2, z3, z4⟩ := hS2.tab.at hx
        simp only [Nat.add_zero] at z0 z1 z2 z3 z4
        have hw0 := dec_pos s p1
        have hcd := fun W => rDigit_calls ⟨runeI s p1, p1, (Utf8.decode s p1).2, l1, k1⟩ W
        have hcl := fun W => rLetter_calls ⟨runeI s p1, p1, (Utf8.decode s p1).2, l1, k1⟩ W
        have hch := fun W => rHere_calls ⟨runeI s p1, p1, (Utf8.decode s p1).2, l1, k1⟩ W
        rw [digit_rune] at hcd
        rw [letter_rune] at hcl
        unfold rnC at hcd hcl hch
        simp only [] at hcd hcl hch
        have tN : ((((Utf8.decode s p1).2 : Nat) : Int) == 0) = false := by rw [beq_eq_false_iff_ne]; omega
        have hT3 : RSt w ((w2.alloc (.cells #[.int .i64 (runeI s p1), .int .i64 ((p1 : Nat) : Int), .int .i64 (((Utf8.decode s p1).2 : Nat) : Int), .int .i64 ((l1 : Nat) : Int), .int .i64 ((k1 : Nat) : Int)] 52)).alloc (.cells #[.int .i64 0, .string ⟨#[]⟩, .int .u64 0, .int .i64 ((l1 : Nat) : Int), .int .i64 ((k1 : Nat) : Int)] 44)) B gr capr s u5 acc w2.heap.size (w2.heap.size + 1) ⟨runeI s p1, p1, (Utf8.decode s p1).2, l1, k1⟩ ⟨0, ⟨#[]⟩, 0, l1, k1⟩ := RSt.begin hS2 ⟨runeI s p1, p1, (Utf8.decode s p1).2, l1, k1⟩ ⟨0, ⟨#[]⟩, 0, l1, k1⟩
        clear hS2
        go_upto_region 9 with fail
        generalize ((w2.alloc (.cells #[.int .i64 (runeI s p1), .int .i64 ((p1 : Nat) : Int), .int .i64 (((Utf8.decode s p1).2 : Nat) : Int), .int .i64 ((l1 : Nat) : Int), .int .i64 ((k1 : Nat) : Int)] 52)).alloc (.cells #[.int .i64 0, .string ⟨#[]⟩, .int .u64 0, .int .i64 ((l1 : Nat) : Int), .int .i64 ((k1 : Nat) : Int)] 44)) = W3 at *
        generalize w2.heap.size = rb at *
        have r0 : W3.cell? ⟨rb, 0, none⟩ = some (.int .i64 (runeI s p1)) := hT3.rblk.cell rfl
        have r1 : W3.cell? ⟨rb, 1, none⟩ = some (.int .i64 ((p1 : Nat) : Int)) := hT3.rblk.cell rfl
        have r2 : W3.cell? ⟨rb, 2, none⟩ = some (.int .i64 (((Utf8.decode s p1).2 : Nat) : Int)) := hT3.rblk.cell rfl
        have r3 : W3.cell? ⟨rb, 3, none⟩ = some (.int .i64 ((l1 : Nat) : Int)) := hT3.rblk.cell rfl
        have r4 : W3.cell? ⟨rb, 4, none⟩ = some (.int .i64 ((k1 : Nat) : Int)) := hT3.rblk.cell rfl
        clear z0 z1 z2 z3 z4
        go_upto_if 44 with (go_at_call 25; refine (hcd _).mono ?_; rintro e w4 ⟨rfl, hb4⟩)
        have hT4 := hT3.to hb4
        clear r0 r1 r2 r3 r4 hT3 hb4 hcd tN
        go_cut [6] (fun v6 wx => ∃ (jn pn kn kd vl : Nat), v6 = .int .i64 ((jn : Nat) : Int) ∧ Hid (tokR (dropB s p1) l1 k1 = ⟨⟨kd, s.extract p1 pn, vl, l1, k1⟩, noFlt, dropB s pn, kn⟩ ∧ kd ≠ 5 ∧ Bnd s jn pn l1 kn ∧ p1 < pn) ∧ Hid (RSt w wx B gr capr s u5 acc rb (rb + 1) ⟨runeI s p1, p1, (Utf8.decode s p1).2, l1, k1⟩ ⟨kd, ⟨#[]⟩, vl, l1, k1⟩))
        case first =>
          cases hD : digitB (Utf8.decode s p1).1
          · cases hLt : letterB (Utf8.decode s p1).1
            · have r0 : w4.cell? ⟨rb, 0, none⟩ = some (.int .i64 (runeI s p1)) := hT4.rblk.cell rfl
              have r1 : w4.cell? ⟨rb, 1, none⟩ = some (.int .i64 ((p1 : Nat) : Int)) := hT4.rblk.cell rfl
              have r2 : w4.cell? ⟨rb, 2, none⟩ = some (.int .i64 (((Utf8.decode s p1).2 : Nat) : Int)) := hT4.rblk.cell rfl
              have r3 : w4.cell? ⟨rb, 3, none⟩ = some (.int .i64 ((l1 : Nat) : Int)) := hT4.rblk.cell rfl
              have r4 : w4.cell? ⟨rb, 4, none⟩ = some (.int .i64 ((k1 : Nat) : Int)) := hT4.rblk.cell rfl
              rw [hLt] at hcl
              have HLt := hid_of hLt
              have HDt := hid_of hD
              clear hD hLt
              go_wp2_with fail
              refine (hcl _).mono ?_
              rintro e w5 ⟨rfl, hb5⟩
              have hT5 := hT4.to hb5
              clear r0 r1 r2 r3 r4 hT4 hb5 hcl
              go_wp2_with fail
              refine (rSigns_calls w5).mono ?_
              rintro e w6 ⟨rfl, hw6⟩
              have hT6 := hT5.to ((Below.refl w5.heap.size w5).alloc (Nat.le_refl _) (.cells signsA 9))
              have hSG := Blk.new w5 9 signsA
              rw [← hw6] at hT6 hSG
              have hsb : rb + 1 < w5.heap.size := hT5.tblk.lt
              have HT6 := hid_of hT6
              have HSG := hid_of hSG
              clear hT5 hT6 hSG hw6
              generalize w5.heap.size = sb at *
              go_wp2_with fail
              go_loopg [6, 13] 25 (fun f v6 v13 wr => ∃ (i : Nat), v13 = .int .i64 ((i : Nat) : Int) ∧ i ≤ 25 ∧ Hid (i + f = 25) ∧ Hid (Blk wr sb 9 signsA) ∧ ((v6 = .int .i64 ((j1 : Nat) : Int) ∧ Hid (signA (dropB s p1) = signK (dropB s p1) (signsL.drop i)) ∧ Hid (RSt w wr B gr capr s u5 acc rb (rb + 1) ⟨runeI s p1, p1, (Utf8.decode s p1).2, l1, k1⟩ ⟨0, ⟨#[]⟩, 0, l1, k1⟩)) ∨ (∃ jn : Nat, v6 = .int .i64 ((jn : Nat) : Int) ∧ Hid (jn = j1 + signA (dropB s p1)) ∧ 0 < signA (dropB s p1) ∧ Hid (RSt w wr B gr capr s u5 acc rb (rb + 1) ⟨runeI s p1, p1, (Utf8.decode s p1).2, l1, k1⟩ ⟨4, ⟨#[]⟩, 0, l1, k1⟩))))
              case atStart => exact ⟨0, rfl, by omega, rfl, HSG.out, Or.inl ⟨rfl, rfl, HT6.out⟩⟩
              case round =>
                clear HT6 HSG
                obtain ⟨i, rfl, hi25, HIF, HSG, hcase⟩ := hrel
                rcases hcase with ⟨rfl, HSK, HR⟩ | ⟨jn, rfl, HJ, hs0, HR⟩
                · have t0 : wr.cell? ⟨rb + 1, 0, none⟩ = some (.int .i64 0) := HR.out.tblk.cell rfl
                  have tf := HR.out.tblk.frozen 0
                  by_cases hil : i < 25
                  · have i1 : ((i : Nat) : Int) < 25 := by omega
                    have i0' : (0 : Int) ≤ ((i : Nat) : Int) := by omega
                    obtain ⟨sg, hsg⟩ : ∃ sg, signsL[i]? = some sg := ⟨_, List.getElem?_eq_getElem (by simpa [signsL] using hil)⟩
                    have g0 : wr.cell? ⟨sb, i, none⟩ = some (.string ⟨sg.toArray⟩) := HSG.out.cell (signs_at hsg)
                    have HSS := hid_of (signK_step (dropB s p1) hsg)
                    have r1 : wr.cell? ⟨rb, 1, none⟩ = some (.int .i64 ((p1 : Nat) : Int)) := HR.out.rblk.cell rfl
                    have hsz : 0 < sg.length ∧ sg.length ≤ 2 := by
                      have := List.all_eq_true.1 signs_short sg (List.mem_of_getElem? hsg)
                      simpa using this
                    have esz : (⟨sg.toArray⟩ : ByteArray).size = sg.length := by show sg.toArray.size = _; simp
                    have hbg := rBegins_calls (.slice xv s.size cap) s ⟨sg.toArray⟩ p1 wr.drew (hv.below (below_step HR.out.rs.below HR.out.rs.below.size (Below.refl _ _).drew)) hB1.1 hs (by rw [esz]; omega)
                    have edl : (⟨sg.toArray⟩ : ByteArray).data.toList = sg := by simp
                    have epx : Lib.hasPrefix (dropB s p1).data.toList sg = sg.isPrefixOf (s.data.toList.drop p1) := by rw [drop_list]; rfl
                    rw [edl] at hbg
                    rw [epx] at HSS
                    generalize hPX : sg.isPrefixOf (s.data.toList.drop p1) = PX at *
                    have HBG := hid_of hbg
                    have HSZ := hid_of esz
                    have HSGI := hid_of hsg
                    have hsbn : ¬ sb = rb + 1 := by omega
                    clear hbg hPX epx edl hsg esz
                    go_upto_region 29 with fail
                    go_cut [108] (fun v108 wx => v108 = .bool PX ∧ ∃ m, wx = wr.drewN m)
                    case first =>
                      go_region_with (go_at_call 30; refine HBG.out.mono ?_; rintro e w9 ⟨rfl, m9, rfl⟩)
                      all_goals
                        go_wp2_with fail
                        go_meet
                        exact ⟨rfl, 1 + m9, rfl⟩
                    case rest =>
                      obtain ⟨rfl, m, rfl⟩ := hcut
                      cases PX
                      · rw [if_neg Bool.false_ne_true] at HSS
                        have HSK2 := hid_of (HSK.out.trans HSS.out)
                        go_wp2_with fail
                        go_roundg (25 - (i + 1))
                        case measure => have := HIF.out; omega
                        case rel => exact ⟨i + 1, by go_num, by omega, by have := HIF.out; rw [Hid]; omega, HSG.out.drewN m, Or.inl ⟨rfl, HSK2.out, HR.out.drewN m⟩⟩
                      · rw [if_pos rfl] at HSS
                        have HSK2 := hid_of (HSK.out.trans HSS.out)
                        have g1 : (wr.drewN m).cell? ⟨sb, i, none⟩ = some (.string ⟨sg.toArray⟩) := g0
                        have g2 : ((wr.drewN m).setCell ⟨rb + 1, 0, none⟩ (.int .i64 4)).cell? ⟨sb, i, none⟩ = some (.string ⟨sg.toArray⟩) := (Blk.setOther (HSG.out.drewN m) (a := ⟨rb + 1, 0, none⟩) (by show sb ≠ rb + 1; omega) (.int .i64 4)).cell (signs_at HSGI.out)
                        have hR9 := (HR.out.drewN m).set 0 (.int .i64 4) ⟨4, ⟨#[]⟩, 0, l1, k1⟩ rfl
                        have hS9 : Blk ((wr.drewN m).setCell ⟨rb + 1, 0, none⟩ (.int .i64 4)) sb 9 signsA := Blk.setOther (HSG.out.drewN m) (by show sb ≠ rb + 1; omega) _
                        go_wp2_with fail
                        go_roundg (25 - (i + 1))
                        case measure => have := HIF.out; omega
                        case rel => exact ⟨i + 1, by go_num, by omega, by have := HIF.out; rw [Hid]; omega, hS9, Or.inr ⟨j1 + sg.length, by go_num, by rw [Hid, HSK2.out], by rw [HSK2.out]; exact hsz.1, hR9⟩⟩
                  · have i1 : ¬ ((i : Nat) : Int) < 25 := by omega
                    have HS0 : Hid (signA (dropB s p1) = 0) := by rw [Hid, HSK.out, List.drop_eq_nil_of_le (by simp [signsL]; omega)]; rfl
                    have HE := hid_of (HL.out.fault HB.out (tok_none hpe HLt.out HDt.out HS0.out) (by show ¬ (20 : Nat) = 0; decide))
                    have r0 : wr.cell? ⟨rb, 0, none⟩ = some (.int .i64 (runeI s p1)) := HR.out.rblk.cell rfl
                    have r1 : wr.cell? ⟨rb, 1, none⟩ = some (.int .i64 ((p1 : Nat) : Int)) := HR.out.rblk.cell rfl
                    have r2 : wr.cell? ⟨rb, 2, none⟩ = some (.int .i64 (((Utf8.decode s p1).2 : Nat) : Int)) := HR.out.rblk.cell rfl
                    have r3 : wr.cell? ⟨rb, 3, none⟩ = some (.int .i64 ((l1 : Nat) : Int)) := HR.out.rblk.cell rfl
                    have r4 : wr.cell? ⟨rb, 4, none⟩ = some (.int .i64 ((k1 : Nat) : Int)) := HR.out.rblk.cell rfl
                    simp only [] at HE
                    clear HSK HS0 HSG
                    go_wp2_with fail
                    refine (hch _).mono ?_
                    rintro e w8 ⟨rfl, hb8⟩
                    have hR8 := HR.out.to hb8
                    have hlo8 := hR8.rs.lo
                    go_wp2_with (refine wpList_store_row rfl 38 _ _ rfl w.heap.size (fltC ⟨20, l1, k1⟩) rfl rfl 38 _ hR8.rs.flt (by kernel_rfl) rfl (all_flt _) ?_)
                    exact bodyPost_ret (ret_rlex rfl rfl ⟨20, l1, k1⟩ (hR8.rs.flt.row _)) rfl (by rw [HE.out]; exact ⟨rfl, Below.row hR8.rs.below (Nat.le_refl _) _⟩)
                · have t0 : wr.cell? ⟨rb + 1, 0, none⟩ = some (.int .i64 4) := HR.out.tblk.cell rfl
                  have HTS := hid_of (tok_sign (l := l1) (k := k1) hpe HLt.out hs0)
                  have HAD := hid_of (hB1.adv (sign_adv s p1 signsL (by decide)))
                  go_wp2_with fail
                  all_goals
                    go_meet
                    exact ⟨jn, p1 + signA (dropB s p1), k1 + signA (dropB s p1), 4, 0, rfl, ⟨HTS.out.2, by decide, by rw [HJ.out]; exact HAD.out, by omega⟩, HR.out⟩
            · have r0 : w4.cell? ⟨rb, 0, none⟩ = some (.int .i64 (runeI s p1)) := hT4.rblk.cell rfl
              have r1 : w4.cell? ⟨rb, 1, none⟩ = some (.int .i64 ((p1 : Nat) : Int)) := hT4.rblk.cell rfl
              have r2 : w4.cell? ⟨rb, 2, none⟩ = some (.int .i64 (((Utf8.decode s p1).2 : Nat) : Int)) := hT4.rblk.cell rfl
              have r3 : w4.cell? ⟨rb, 3, none⟩ = some (.int .i64 ((l1 : Nat) : Int)) := hT4.rblk.cell rfl
              have r4 : w4.cell? ⟨rb, 4, none⟩ = some (.int .i64 ((k1 : Nat) : Int)) := hT4.rblk.cell rfl
              rw [hLt] at hcl
              have HLt := hid_of hLt
              have HN0 := hid_of (NamW.start hB1)
              clear hD hLt hch
              go_wp2_with fail
              refine (hcl _).mono ?_
              rintro e w5 ⟨rfl, hb5⟩
              have hT5 := hT4.to hb5
              have HT5 := hid_of hT5
              clear r0 r1 r2 r3 r4 hT4 hb5 hT5 hcl
              go_wp2_with fail
              go_loopw [6] (fun v6 wr => ∃ (n q jn : Nat), v6 = .int .i64 ((jn : Nat) : Int) ∧ Hid (jn = j1 + n) ∧ Hid (NamW s j1 p1 l1 k1 n q) ∧ Hid (RSt w wr B gr capr s u5 acc rb (rb + 1) ⟨runeI s p1, p1, (Utf8.decode s p1).2, l1, k1⟩ ⟨0, ⟨#[]⟩, 0, l1, k1⟩)) (fun v6 _ => (runesA s).length - (intOf v6).toNat)
              case atStart => exact ⟨0, p1, j1, rfl, rfl, HN0.out, HT5.out⟩
              case round =>
                clear HN0 HT5
                obtain ⟨n, q, jn, rfl, HJ, HNw, HR⟩ := hrel
                have hBq : Bnd s jn q l1 (k1 + n) := by rw [HJ.out]; exact HNw.out.1
                obtain ⟨kn, hkn⟩ : ∃ kn, kn = k1 + n := ⟨_, rfl⟩
                rw [← hkn] at hBq
                have HKN := hid_of hkn
                clear hkn
                have hjq := hBq.lt
                have a0 : (0 : Int) ≤ ((jn : Nat) : Int) := by omega
                have a1 : ((jn : Nat) : Int) < (((runesA s).length : Nat) : Int) := by omega
                obtain ⟨r', n', hx', hcase⟩ := rune_word hBq
                obtain ⟨z0, z1, z2, z3, z4⟩ := HR.out.rs.tab.at hx'
                simp only [Nat.add_zero] at z0 z1 z2 z3 z4
                have hcl := fun W => rLetter_calls ⟨r', q, n', l1, kn⟩ W
                have hcd := fun W => rDigit_calls ⟨r', q, n', l1, kn⟩ W
                have HX := hid_of hx'
                clear hx'
                unfold rnC at hcl hcd
                simp only [] at hcl hcd
                rcases hcase with ⟨c1, c2, c3⟩ | ⟨c1, c2, c3, c4⟩ | ⟨c1, c2, c3⟩
                · rw [c1] at hcl
                  have HM := hid_of (HNw.out.more c2 (Or.inl c3))
                  have HJ2 : Hid (jn + 1 = j1 + (n + 1)) := by rw [HJ.out]; rfl
                  clear c1 c3 hcd
                  go_wp2_with fail
                  refine (hcl _).mono ?_
                  rintro e w6 ⟨rfl, hb6⟩
                  have hR6 := HR.out.to hb6
                  clear z0 z1 z2 z3 z4
                  go_wp2_with fail
                  exact ⟨⟨n + 1, _, jn + 1, by go_num, HJ2, HM.out, hR6⟩, by simp [intOf]; omega⟩
                · rw [c1] at hcl
                  rw [c2] at hcd
                  have hn0 : n ≠ 0 := by
                    intro e
                    subst e
                    have := HNw.out.2.2.1.1 rfl
                    subst this
                    have h1 := c4.1
                    rw [HLt.out] at h1
                    exact absurd h1 (by decide)
                  have HM := hid_of (HNw.out.more c3 (Or.inr ⟨hn0, c4.2⟩))
                  have HJ2 : Hid (jn + 1 = j1 + (n + 1)) := by rw [HJ.out]; rfl
                  clear c1 c2 c4
                  go_wp2_with fail
                  refine (hcl _).mono ?_
                  rintro e w6 ⟨rfl, hb6⟩
                  have hR6 := HR.out.to hb6
                  obtain ⟨y0, y1, y2, y3, y4⟩ := hR6.rs.tab.at HX.out
                  simp only [Nat.add_zero] at y0 y1 y2 y3 y4
                  clear z0 z1 z2 z3 z4
                  go_wp2_with fail
                  refine (hcd _).mono ?_
                  rintro e w7 ⟨rfl, hb7⟩
                  have hR7 := hR6.to hb7
                  clear y0 y1 y2 y3 y4
                  go_wp2_with fail
                  exact ⟨⟨n + 1, _, jn + 1, by go_num, HJ2, HM.out, hR7⟩, by simp [intOf]; omega⟩
                · rw [c1] at hcl
                  rw [c2] at hcd
                  have hnA := HNw.out.stop c3
                  have hpq : p1 < q := by
                    have h1 := HNw.out.2.1
                    rcases Nat.lt_or_ge p1 q with h | h
                    · exact h
                    · exfalso
                      have e : q = p1 := by omega
                      subst e
                      have := (c3 hpe).1
                      rw [HLt.out] at this
                      exact absurd this (by decide)
                  have HTN := hid_of (tok_name HNw.out hnA hpq)
                  have HBQ := hid_of hBq
                  clear c1 c2 c3 hnA
                  go_wp2_with fail
                  refine (hcl _).mono ?_
                  rintro e w6 ⟨rfl, hb6⟩
                  have hR6 := HR.out.to hb6
                  obtain ⟨y0, y1, y2, y3, y4⟩ := hR6.rs.tab.at HX.out
                  simp only [Nat.add_zero] at y0 y1 y2 y3 y4
                  clear z0 z1 z2 z3 z4
                  go_wp2_with fail
                  refine (hcd _).mono ?_
                  rintro e w7 ⟨rfl, hb7⟩
                  have hR7 := hR6.to hb7
                  clear y0 y1 y2 y3 y4 hcl hcd
                  have t0 : w7.cell? ⟨rb + 1, 0, none⟩ = some (.int .i64 0) := hR7.tblk.cell rfl
                  have tf := hR7.tblk.frozen 0
                  go_upto_region 23 with fail
                  have hR8 := hR7.set 0 (.int .i64 1) ⟨1, ⟨#[]⟩, 0, l1, k1⟩ rfl
                  generalize w7.setCell ⟨rb + 1, 0, none⟩ (.int .i64 1) = W8 at *
                  clear t0 tf hR7 hb7 hR6
                  have hqs := hBq.1
                  obtain ⟨x1, x2, x3⟩ := txh_of hR8 hv hcap hBq (Nat.le_of_lt hpq)
                  obtain ⟨y1, y2, y3⟩ := txh_of (hR8.to (Below.refl _ _).drew) hv hcap hBq (Nat.le_of_lt hpq)
                  simp only [] at x1 x2 x3 y1 y2 y3
                  have hsl := fun W => slice_bytes2 W xv s.size cap p1 q (Nat.le_of_lt hpq) (by omega)
                  generalize sliced xv p1 q cap 1 = vs at *
                  have hiw := fun W => rIsWord_calls (s.extract p1 q) W
                  generalize hTX : s.extract p1 q = tx at *
                  have HTX := hid_of hTX
                  clear hTX
                  go_cut [87] (fun v87 wx => v87 = .bool (wordB tx) ∧ Hid (RSt w wx B gr capr s u5 acc rb (rb + 1) ⟨runeI s p1, p1, (Utf8.decode s p1).2, l1, k1⟩ ⟨1, ⟨#[]⟩, 0, l1, k1⟩))
                  case first =>
                    go_region_with (go_at_call 28; refine (hiw _).mono ?_; rintro e w9 ⟨rfl, hb9⟩)
                    all_goals
                      go_wp2_with fail
                      go_meet
                      exact ⟨rfl, (hR8.to (Below.refl _ _).drew).to hb9⟩
                  case rest =>
                    obtain ⟨rfl, HR9⟩ := hcut
                    cases hwd : wordB tx
                    · rw [hwd, if_neg Bool.false_ne_true] at HTN
                      clear hwd
                      go_wp2_with fail
                      go_meet
                      exact ⟨jn, q, kn, 1, 0, rfl, ⟨by rw [HTX.out, HKN.out]; exact HTN.out, by decide, HBQ.out, hpq⟩, HR9.out⟩
                    · rw [hwd, if_pos rfl] at HTN
                      have t0 : wc.cell? ⟨rb + 1, 0, none⟩ = some (.int .i64 1) := HR9.out.tblk.cell rfl
                      have tf := HR9.out.tblk.frozen 0
                      have hR10 := HR9.out.set 0 (.int .i64 3) ⟨3, ⟨#[]⟩, 0, l1, k1⟩ rfl
                      clear hwd
                      go_wp2_with fail
                      go_meet
                      exact ⟨jn, q, kn, 3, 0, rfl, ⟨by rw [HTX.out, HKN.out]; exact HTN.out, by decide, HBQ.out, hpq⟩, hR10⟩
          · have hdb : digitB (byteAt s p1) = true := by
              have := digitB_iff.1 hD
              rw [← (dec_low s p1 (by omega)).2]
              exact hD
            have HN := hid_of (rNumber_calls _ gr capr s w4 hT4.rs.tab hs j1 p1 l1 k1 hB1 hpe hdb)
            have HTD := hid_of (tok_digit (l := l1) (k := k1) hpe hdb)
            clear hD hdb
            go_wp2_with fail
            refine HN.out.mono ?_
            rintro e w5 ⟨hans, hb5⟩
            have hT5 := hT4.to hb5
            generalize numR (dropB s p1) l1 k1 = R at *
            have hlo5 := hT5.rs.lo
            rcases hans with ⟨hc, jn, rfl⟩ | ⟨n, v, hr, hn0, hBn, rfl⟩
            · obtain ⟨rt, ⟨fc, fl, fk⟩, rr, rc⟩ := R
              have HE := hid_of (HL.out.fault HB.out HTD.out hc)
              simp only [] at HE hc
              simp only [fltC, fltA]
              have t1 : (((fc : Nat) : Int) != 0) = true := by simp; omega
              clear HN hT4 hb5 HTD hc
              have hW : Below w5.heap.size w5 (w5.alloc (.cells (fltA fc fl fk) 38)) := (Below.refl _ _).alloc (Nat.le_refl _) _
              have hT6 := hT5.to hW
              have hF : Blk (w5.alloc (.cells (fltA fc fl fk) 38)) w5.heap.size 38 (fltA fc fl fk) := Blk.new w5 _ _
              go_wp2_with fail
              generalize (w5.alloc (.cells (fltA fc fl fk) 38)) = W at *
              have hnn : ¬ w5.heap.size = w.heap.size := by omega
              generalize w5.heap.size = fb at *
              have d0 : W.cell? ⟨fb, 0, none⟩ = some (.int .i64 ((fc : Nat) : Int)) := hF.cell rfl
              have d1 : W.cell? ⟨fb, 1, none⟩ = some (.int .i64 ((fl : Nat) : Int)) := hF.cell rfl
              have d2 : W.cell? ⟨fb, 2, none⟩ = some (.int .i64 ((fk : Nat) : Int)) := hF.cell rfl
              have e0 : W.cell? ⟨w.heap.size, 0, none⟩ = some (.int .i64 0) := hT6.rs.flt.cell rfl
              have e1 : W.cell? ⟨w.heap.size, 1, none⟩ = some (.int .i64 0) := hT6.rs.flt.cell rfl
              have e2 : W.cell? ⟨w.heap.size, 2, none⟩ = some (.int .i64 0) := hT6.rs.flt.cell rfl
              have f0 := hT6.rs.flt.frozen 0
              have f1 := hT6.rs.flt.frozen 1
              have f2 := hT6.rs.flt.frozen 2
              go_region_held3 (fun w' => w'.cell? ⟨fb, 0, none⟩ = some (.int .i64 ((fc : Nat) : Int)) ∧ w'.cell? ⟨fb, 1, none⟩ = some (.int .i64 ((fl : Nat) : Int)) ∧ w'.cell? ⟨fb, 2, none⟩ = some (.int .i64 ((fk : Nat) : Int))) (first | assumption | exact ⟨d0, d1, d2⟩ | exact ⟨((((hF.drew.setOther (by simpa using hnn) _).setOther (by simpa using hnn) _).setOther (by simpa using hnn) _)).cell rfl, ((((hF.drew.setOther (by simpa using hnn) _).setOther (by simpa using hnn) _).setOther (by simpa using hnn) _)).cell rfl, ((((hF.drew.setOther (by simpa using hnn) _).setOther (by simpa using hnn) _).setOther (by simpa using hnn) _)).cell rfl⟩) (fail)
              rename_i hHeld
              clear hHeld
              go_wp2_with fail
              have hG : Blk ((((W.setCell ⟨w.heap.size, 0, none⟩ (.int .i64 ((fc : Nat) : Int))).setCell ⟨w.heap.size, 1, none⟩ (.int .i64 ((fl : Nat) : Int))).setCell ⟨w.heap.size, 2, none⟩ (.int .i64 ((fk : Nat) : Int))).drew) w.heap.size 38 (fltC ⟨fc, fl, fk⟩) := ((hT6.rs.flt.set 0 (.int .i64 ((fc : Nat) : Int))).set 1 (.int .i64 ((fl : Nat) : Int))).set 2 (.int .i64 ((fk : Nat) : Int))
              exact bodyPost_ret (ret_rlex rfl rfl ⟨fc, fl, fk⟩ hG) rfl (by rw [HE.out]; exact ⟨rfl, (((hT6.rs.below.setCell (by simp) _).setCell (by simp) _).setCell (by simp) _).drew⟩)
            · have HE : Hid (tokR (dropB s p1) l1 k1 = ⟨⟨2, s.extract p1 (p1 + n), v, l1, k1⟩, noFlt, dropB s (p1 + n), k1 + n⟩) := HTD.out.trans hr
              simp only [fltC, fltA, noFlt]
              have hT6 := hT5.to ((Below.refl w5.heap.size w5).alloc (Nat.le_refl _) (.cells #[.int .i64 0, .int .i64 0, .int .i64 0] 38))
              clear HN hT4 hb5 HTD hr hT5
              go_upto_region 16 with fail
              generalize (w5.alloc (.cells #[.int .i64 0, .int .i64 0, .int .i64 0] 38)) = W6 at *
              have t0 : W6.cell? ⟨rb + 1, 0, none⟩ = some (.int .i64 0) := hT6.tblk.cell rfl
              have tf := hT6.tblk.frozen 0
              have t2 : W6.cell? ⟨rb + 1, 2, none⟩ = some (.int .u64 0) := hT6.tblk.cell rfl
              have tf2 := hT6.tblk.frozen 2
              have hT8 := (hT6.set 0 (.int .i64 2) ⟨2, ⟨#[]⟩, 0, l1, k1⟩ rfl).set 2 (.int .u64 ((v : Nat) : Int)) ⟨2, ⟨#[]⟩, v, l1, k1⟩ rfl
              go_wp2_with fail
              go_meet
              exact ⟨j1 + n, p1 + n, k1 + n, 2, v, rfl, ⟨HE.out, by decide, hBn, by omega⟩, hT8⟩
        case rest =>
          obtain ⟨jn, pn, kn, kd, vl, rfl, HT, HW⟩ := hcut
          obtain ⟨ht1, ht2, ht3, ht4⟩ := HT.out
          have hjn := ht3.lt
          have hpn := ht3.1
          have HX0 := txh_of HW.out hv hcap ht3 (Nat.le_of_lt ht4)
          have hT5 := HW.out.set 1 (.string (s.extract p1 pn)) ⟨kd, s.extract p1 pn, vl, l1, k1⟩ rfl
          have HX0d := txh_of (HW.out.to (Below.refl _ _).drew) hv hcap ht3 (Nat.le_of_lt ht4)
          have HX1 := txh_of (hT5.to (Below.refl _ _).drew) hv hcap ht3 (Nat.le_of_lt ht4)
          have HX2 := txh_of ((HW.out.to (Below.refl _ _).drew).set 1 (.string (s.extract p1 pn)) ⟨kd, s.extract p1 pn, vl, l1, k1⟩ rfl) hv hcap ht3 (Nat.le_of_lt ht4)
          simp only [] at HX0 HX0d HX1 HX2
          have hsl := fun W => slice_bytes2 W xv s.size cap p1 pn (Nat.le_of_lt ht4) (by omega)
          generalize sliced xv p1 pn cap 1 = vs at *
          have HLN := hid_of (HL.out.step HB.out hpp ht1 ht2 ht3 ht4)
          generalize s.extract p1 pn = tx at *
          have m0 : (0 : Int) ≤ ((jn : Nat) : Int) := by omega
          have m1 : ((jn : Nat) : Int) < (((runesA s).length : Nat) : Int) := by omega
          have hrb : ¬ rb = rb + 1 := by omega
          have hlo0 := HW.out.rs.lo
          have hhi0 := HW.out.hi
          have hgrb : ¬ gr = rb + 1 := by omega
          have t1 : wc.cell? ⟨rb + 1, 1, none⟩ = some (.string ⟨#[]⟩) := HW.out.tblk.cell rfl
          have tf := HW.out.tblk.frozen 1
          obtain ⟨x1, x2, x3⟩ := HX0
          have HXA := hid_of HX1
          have HXB := hid_of HX2
          have HXC := hid_of HX0d
          clear ht1 ht2 HT HX1 HX2 HX0d
          go_wp2_with fail
          go_region_held3 (fun w' => w'.cell? ⟨rb, 1, none⟩ = some (.int .i64 ((p1 : Nat) : Int)) ∧ w'.cell? ⟨gr, jn * 5 + 1, none⟩ = some (.int .i64 ((pn : Nat) : Int)) ∧ (convert 32 9 vs).run Tryd.prog w' = .ok (.string tx) w') (first | assumption | exact ⟨x1, x2, x3⟩ | exact HXA.out | exact HXB.out | exact HXC.out) (fail)
          rename_i hHeld
          have hT6 := hT5.to (Below.refl _ _).drew
          clear hHeld hT5 HXA HXB HXC x1 x2 x3 t1 tf hsl
          generalize (wc.setCell ⟨rb + 1, 1, none⟩ (.string tx)).drew = W6 at *
          have q0 : W6.cell? ⟨rb + 1, 0, none⟩ = some (.int .i64 ((kd : Nat) : Int)) := hT6.tblk.cell rfl
          have q1 : W6.cell? ⟨rb + 1, 1, none⟩ = some (.string tx) := hT6.tblk.cell rfl
          have q2 : W6.cell? ⟨rb + 1, 2, none⟩ = some (.int .u64 ((vl : Nat) : Int)) := hT6.tblk.cell rfl
          have q3 : W6.cell? ⟨rb + 1, 3, none⟩ = some (.int .i64 ((l1 : Nat) : Int)) := hT6.tblk.cell rfl
          have q4 : W6.cell? ⟨rb + 1, 4, none⟩ = some (.int .i64 ((k1 : Nat) : Int)) := hT6.tblk.cell rfl
          have hlo := hT6.rs.lo
          have hac : acc.length ≤ 65536 := by have := hLB.1; omega
          go_wp2_with (at_builtin; refine wpList_append_own_at _ rfl _ _ 36 rfl B 44 i0 (.agg #[.int .i64 0, .string ⟨#[]⟩, .int .u64 0, .int .i64 0, .int .i64 0]) 5 48 Tryd.underlying36 hi hz0 hz1 hz2 rfl (by decide) u5 acc.length (encT acc) rfl (hT6.rs.own.alloc _) ⟨_, 0, none⟩ 1 1 (tokC ⟨kd, tx, vl, l1, k1⟩).toList rfl rfl (news_rtok W6 ⟨kd, tx, vl, l1, k1⟩) (by simp [tokC, Value.oneCell']) (by unfold maxLen; omega) (by omega) (by simp; omega) ?_; intro v' w7 hown' hgrow _ _; have hA6 := hT6.rs.more (t := ⟨kd, tx, vl, l1, k1⟩) hown' hgrow)
          have hjf := HJF.out
          have hjj := hLB.idx ht3 (by omega)
          go_roundg ((runesA s).length - jn)
          case measure => omega
          case rel => exact ⟨jn, pn, l1, kn, acc ++ [(⟨kd, tx, vl, l1, k1⟩ : Tok)], rfl, by rw [Hid]; omega, by rw [List.length_append]; simp; omega, HLN.out, hA6⟩
      · have hx := rune_end hB1 hpe
        have hT3 : RSt w ((w2.alloc (.cells #[.int .i64 0, .int .i64 ((p1 : Nat) : Int), .int .i64 0, .int .i64 ((l1 : Nat) : Int), .int .i64 ((k1 : Nat) : Int)] 52)).alloc (.cells #[.int .i64 0, .string ⟨#[]⟩, .int .u64 0, .int .i64 ((l1 : Nat) : Int), .int .i64 ((k1 : Nat) : Int)] 44)) B gr capr s u5 acc w2.heap.size (w2.heap.size + 1) ⟨0, p1, 0, l1, k1⟩ ⟨0, ⟨#[]⟩, 0, l1, k1⟩ := RSt.begin hS2 ⟨0, p1, 0, l1, k1⟩ ⟨0, ⟨#[]⟩, 0, l1, k1⟩
        obtain ⟨z0, z1, z2, z3, z4⟩ := hS2.tab.at hx
        simp only [Nat.add_zero] at z0 z1 z2 z3 z4
        have HE := hid_of (HL.out.done HB.out hpe)
        clear hS2
        go_upto_region 9 with fail
        generalize ((w2.alloc (.cells #[.int .i64 0, .int .i64 ((p1 : Nat) : Int), .int .i64 0, .int .i64 ((l1 : Nat) : Int), .int .i64 ((k1 : Nat) : Int)] 52)).alloc (.cells #[.int .i64 0, .string ⟨#[]⟩, .int .u64 0, .int .i64 ((l1 : Nat) : Int), .int .i64 ((k1 : Nat) : Int)] 44)) = W3 at *
        generalize w2.heap.size = rb at *
        have r2 : W3.cell? ⟨rb, 2, none⟩ = some (.int .i64 0) := hT3.rblk.cell rfl
        have t0 : W3.cell? ⟨rb + 1, 0, none⟩ = some (.int .i64 0) := hT3.tblk.cell rfl
        have tf := hT3.tblk.frozen 0
        clear z0 z1 z2 z3 z4
        go_upto_region 11 with fail
        have hT4 := hT3.set 0 (.int .i64 5) ⟨5, ⟨#[]⟩, 0, l1, k1⟩ rfl
        generalize W3.setCell ⟨rb + 1, 0, none⟩ (.int .i64 5) = W4 at *
        clear r2 t0 tf hT3
        have q0 : W4.cell? ⟨rb + 1, 0, none⟩ = some (.int .i64 5) := hT4.tblk.cell rfl
        have q1 : W4.cell? ⟨rb + 1, 1, none⟩ = some (.string ⟨#[]⟩) := hT4.tblk.cell rfl
        have q2 : W4.cell? ⟨rb + 1, 2, none⟩ = some (.int .u64 0) := hT4.tblk.cell rfl
        have q3 : W4.cell? ⟨rb + 1, 3, none⟩ = some (.int .i64 ((l1 : Nat) : Int)) := hT4.tblk.cell rfl
        have q4 : W4.cell? ⟨rb + 1, 4, none⟩ = some (.int .i64 ((k1 : Nat) : Int)) := hT4.tblk.cell rfl
        have hlo := hT4.rs.lo
        have hac : acc.length ≤ 65536 := by have := hLB.1; omega
        go_wp2_with (first | (at_builtin; refine wpList_append_own_at _ rfl _ _ 36 rfl B 44 i0 (.agg #[.int .i64 0, .string ⟨#[]⟩, .int .u64 0, .int .i64 0, .int .i64 0]) 5 48 Tryd.underlying36 hi hz0 hz1 hz2 rfl (by decide) u5 acc.length (encT acc) rfl (hT4.rs.own.alloc _) ⟨_, 0, none⟩ 1 1 (tokC ⟨5, ⟨#[]⟩, 0, l1, k1⟩).toList rfl rfl (news_rtok W4 ⟨5, ⟨#[]⟩, 0, l1, k1⟩) (by simp [tokC, Value.oneCell']) (by unfold maxLen; omega) (by omega) (by simp; omega) ?_; intro v' w5 hown' hgrow _ _; have hA5 := hT4.rs.more (t := ⟨5, ⟨#[]⟩, 0, l1, k1⟩) hown' hgrow) | refine wpList_store_row rfl 38 _ _ rfl w.heap.size (fltC noFlt) rfl rfl 38 _ hA5.flt (by kernel_rfl) rfl (all_flt _) ?_)
        have hlo5 := hA5.lo
        have hown5 := hA5.own
        refine bodyPost_ret (ret_rlex rfl rfl noFlt (hA5.flt.row _)) rfl ?_
        rw [HE.out]
        refine ⟨⟨_, rfl, ?_⟩, Below.row hA5.below (Nat.le_refl _) _⟩
        refine ⟨hown5.1, ?_⟩
        rcases hown5.2 with h2 | ⟨g, cap, cur, h3, h4, h5, h6⟩
        · exact .inl h2
        · exact .inr ⟨g, cap, cur, h3, by omega, (setRow_other w5 w.heap.size g (fltC noFlt) (by omega)).trans h5, h6⟩
end Go.Proofs.YtkgppagpjbkhmaaDoor
