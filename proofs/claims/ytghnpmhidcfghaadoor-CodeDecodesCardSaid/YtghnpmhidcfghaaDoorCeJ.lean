/-
  The document's Text of any bytes.
-/
import Derived.Test.YtghnpmhidcfghaaDoorCeI
namespace Go.Proofs.YtghnpmhidcfghaaDoor.Fl
open Go.RowKit

theorem bsz (l : List UInt8) : (⟨l.toArray⟩ : ByteArray).size = l.length := by show l.toArray.size = _; simp
theorem bdl (S : ByteArray) : S.size = S.data.toList.length := by show S.data.size = _; simp
/-- a line's words are these, one behind the other -/
theorem line_words {k : Nat} {nmx : List UInt8} {sa : Nat} {la : Int} {sb : Nat} {lb t u : Int} (hr : formsL[k]? = some (nmx, (sa : Int), la, (sb : Int), lb, t, u)) (q : Nat) (a b : Int) :
    lineR q ((k : Int), a, b) = Lib.itoa (q : Int) ++ [32] ++ nmx ++ (if 0 < sa then [32] ++ Lib.itoa a else []) ++ (if 0 < sb then [32] ++ Lib.itoa b else []) ++ [10] := by
  unfold lineR wordsR
  simp only [Int.toNat_natCast, hr]
  by_cases h1 : 0 < sa
  · by_cases h2 : 0 < sb
    · simp [h1, h2, Lib.join_cons, Lib.joinTail]
    · obtain rfl : sb = 0 := by omega
      simp [h1, Lib.join_cons, Lib.joinTail]
  · obtain rfl : sa = 0 := by omega
    by_cases h2 : 0 < sb
    · simp [h2, Lib.join_cons, Lib.joinTail]
    · obtain rfl : sb = 0 := by omega
      simp [Lib.join_cons, Lib.joinTail]
set_option maxRecDepth 100000 in
set_option maxHeartbeats 4000000 in
theorem rtextD_any (bs : List UInt8) (hl : bs.length ≤ 1000) (A : Option Addr) (c B : Nat) (w : World) (hr : Rd w B A (cb bs)) (hB : B ≤ w.heap.size) (hc : bs.length ≤ c) :
    Calls Tryd.prog 15 #[.slice A bs.length c] w (TextPost (textD bs (bs.length + 1) 0) w) := by
  have HR := Lib.hid hr
  obtain ⟨R, hR⟩ : ∃ R, textD bs (bs.length + 1) 0 = R := ⟨_, rfl⟩
  have HRe := Lib.hid hR
  rw [hR]
  clear hr hR
  go_enter Tryd.func15, Tryd.ntmps15
  go_wp2_with fail
  go_loopw [4, 5] (fun v4 v5 wr => ∃ (f q : Nat) (S : ByteArray) (ts : List UInt8), bs.length ≤ f + q ∧ q ≤ bs.length ∧ ts.length ≤ 200 * q ∧ v4 = .string S ∧ v5 = .int .i64 (q : Int) ∧ Hid (S.data.toList = ts) ∧ Hid (addT ts (textD bs (f + 1) q) = R) ∧ Hid (Below w.heap.size w wr)) (fun _ v5 _ => bs.length - (intOf v5).toNat)
  case atStart => exact ⟨bs.length, 0, ⟨#[]⟩, [], by omega, Nat.zero_le _, Nat.zero_le _, rfl, rfl, Lib.hid rfl, Lib.hid (by rw [← HRe.out]; cases textD bs (bs.length + 1) 0 <;> rfl), Lib.hid (Below.refl _ _)⟩
  case round =>
    obtain ⟨f, q, S, ts, hf, hq, htl, rfl, rfl, HS, HT, HO⟩ := hrel
    clear HRe
    by_cases hlt : q < bs.length
    · obtain ⟨f, rfl⟩ : ∃ f', f = f' + 1 := ⟨f - 1, by omega⟩
      have hdec := rdecode_any bs (q : Int) A c B wr (HR.out.below HO.out hB) (Nat.le_trans hB HO.out.size) hc (by omega)
      obtain ⟨D, hD⟩ : ∃ D, decR bs (q : Int) = D := ⟨_, rfl⟩
      rw [hD] at hdec
      rcases D with ⟨⟨op, a, b⟩, p⟩ | n
      · obtain ⟨n, hqn, hnp, hpl, hi, _⟩ := enc_dec hD
        obtain rfl : q = n := by omega
        replace hi : isI op a b = true := hi
        have HT3 : Hid (addT (ts ++ lineR q (op, a, b)) (textD bs (f + 1) p) = R) := Lib.hid (by rw [← HT.out, textD_step hlt hD, addT_add])
        obtain ⟨⟨a0, a1⟩, b0, b1⟩ := isI_bd hi
        obtain ⟨kk, rfl, hkk⟩ := isI_op hi
        have hll := line_le q ((kk : Int), a, b) (by omega) (by show _ ≤ a ∧ a ≤ _; omega) (by show _ ≤ b ∧ b ≤ _; omega)
        have htl2 : (ts ++ lineR q ((kk : Int), a, b)).length ≤ 200 * p := by rw [List.length_append]; omega
        obtain ⟨nmx, sa, la, sb, t, u, hrow, ⟨hsa, hsb⟩, hla, _⟩ := formsL_get2 hkk
        have hlw := line_words hrow q a b
        have hnl := nm_len hrow
        have hnm := fun w => rname_row hkk hrow w
        replace hnl : nmx.length ≤ 21 := hnl
        obtain ⟨ln, hln⟩ : ∃ ln, lineR q ((kk : Int), a, b) = ln := ⟨_, rfl⟩
        rw [hln] at HT3 htl2 hlw
        -- the texts
        have hTq := fun w => rtextC (q : Int) w (by omega) (by omega)
        have hTa := fun w => rtextC a w (by omega) (by omega)
        have hTb := fun w => rtextC b w (by omega) (by omega)
        have lq := Lib.itoa_length_le (q : Int) (by omega) (by omega)
        have la' := Lib.itoa_length_le a (by omega) (by omega)
        have lb' := Lib.itoa_length_le b (by omega) (by omega)
        generalize Lib.itoa (q : Int) = iq at *
        generalize Lib.itoa a = ia at *
        generalize Lib.itoa b = ib at *
        obtain ⟨Tq, hTqe⟩ : ∃ T : ByteArray, (⟨iq.toArray⟩ : ByteArray) = T := ⟨_, rfl⟩
        obtain ⟨Ta, hTae⟩ : ∃ T : ByteArray, (⟨ia.toArray⟩ : ByteArray) = T := ⟨_, rfl⟩
        obtain ⟨Tb, hTbe⟩ : ∃ T : ByteArray, (⟨ib.toArray⟩ : ByteArray) = T := ⟨_, rfl⟩
        obtain ⟨Tn, hTne⟩ : ∃ T : ByteArray, (⟨nmx.toArray⟩ : ByteArray) = T := ⟨_, rfl⟩
        have sq : Tq.size ≤ 21 := by rw [← hTqe, bsz]; exact lq
        have sa' : Ta.size ≤ 21 := by rw [← hTae, bsz]; exact la'
        have sb' : Tb.size ≤ 21 := by rw [← hTbe, bsz]; exact lb'
        have sn : Tn.size ≤ 21 := by rw [← hTne, bsz]; exact hnl
        have sS : S.size ≤ 200000 := by rw [bdl, HS.out]; omega
        rw [hTqe] at hTq
        rw [hTae] at hTa
        rw [hTbe] at hTb
        rw [hTne] at hnm
        have HDt := Lib.hid (And.intro (show Tq.data.toList = iq by rw [← hTqe]) (And.intro (show Ta.data.toList = ia by rw [← hTae]) (And.intro (show Tb.data.toList = ib by rw [← hTbe]) (show Tn.data.toList = nmx by rw [← hTne]))))
        have HLW := Lib.hid hlw
        have hra : ((refA (sa : Int) la) != 0) = decide (0 < sa) := by
          unfold refA
          by_cases h0 : 0 < sa
          · rw [decide_eq_true h0, bne_iff_ne]; split <;> omega
          · rw [decide_eq_false h0, bne_eq_false_iff_eq]; split <;> omega
        generalize refA (sa : Int) la = ra at *
        clear HT hi hD hqn hll hrow hla hln hlw hTqe hTae hTbe hTne lq la' lb' hnl
        go_wp2_with fail
        refine hdec.mono ?_
        rintro e w2 ⟨hb2, hcase⟩
        obtain ⟨y, p', hxp, rfl⟩ | ⟨n, hxp, _⟩ := hcase
        rotate_left 1
        · cases hxp
        obtain ⟨rfl, rfl⟩ : y = ((kk : Int), a, b) ∧ p' = p := by cases hxp; exact ⟨rfl, rfl⟩
        have hb3 : Below wr.heap.size wr (w2.alloc (.cells #[.int .i64 (kk : Int), .int .i64 a, .int .i64 b] 26)) := hb2.alloc hb2.size _
        have HO3 := Lib.hid (HO.out.trans (hb3.mono HO.out.size))
        have hw3 := heap_alloc_new w2 (.cells #[.int .i64 (kk : Int), .int .i64 a, .int .i64 b] 26)
        have f3 := three_cellsC hw3
        have HW3 := Lib.hid hw3
        clear hdec hxp hb2 hb3 hw3 HO
        unfold insV
        by_cases ha : 0 < sa
        · have hra1 : (ra != 0) = true := by rw [hra]; exact decide_eq_true ha
          clear hra
          by_cases hb' : 0 < sb
          · have hsb1 : ((sb : Int) != 0) = true := by rw [bne_iff_ne]; omega
            have HSn : Hid (((((((((S ++ Tq) ++ ⟨#[32]⟩) ++ Tn) ++ ⟨#[32]⟩) ++ Ta) ++ ⟨#[32]⟩) ++ Tb) ++ ⟨#[10]⟩ : ByteArray).data.toList = ts ++ ln) := Lib.hid (by obtain ⟨d1, d2, d3, d4⟩ := HDt.out; simp only [ByteArray.data_append, Array.toList_append, HS.out, d1, d2, d3, d4, HLW.out]; simp [ha, hb'])
            go_wp2_with (first | (go_at_call 19; refine (hnm _).mono ?_; rintro e w' ⟨rfl, rfl⟩) | (go_at_call 27; refine (hTq _).mono ?_; rintro e w4 ⟨rfl, hb4⟩; have HW4 := Lib.hid ((hb4.block _ (lt_of_blkC HW3.out)).trans HW3.out); have f4 := three_cellsC HW4.out; have HO4 := Lib.hid (HO3.out.trans (hb4.mono HO3.out.size)); clear hb4 f3 hTq) | (go_at_call 27; refine (hTa _).mono ?_; rintro e w5 ⟨rfl, hb5⟩; have HW5 := Lib.hid ((hb5.block _ (lt_of_blkC HW4.out)).trans HW4.out); have f5 := three_cellsC HW5.out; have HO5 := Lib.hid (HO4.out.trans (hb5.mono HO4.out.size)); clear hb5 f4 hTa) | (go_at_call 27; refine (hTb _).mono ?_; rintro e w6 ⟨rfl, hb6⟩; have HO6 := Lib.hid (HO5.out.trans (hb6.mono HO5.out.size)); clear hb6 hTb))
            go_roundw
            case rel => exact ⟨f, p', _, ts ++ ln, by omega, hpl, htl2, rfl, rfl, HSn, HT3, HO6⟩
            case measure => simp [intOf]; omega
          · obtain rfl : sb = 0 := by omega
            have HSn : Hid (((((((S ++ Tq) ++ ⟨#[32]⟩) ++ Tn) ++ ⟨#[32]⟩) ++ Ta) ++ ⟨#[10]⟩ : ByteArray).data.toList = ts ++ ln) := Lib.hid (by obtain ⟨d1, d2, d3, d4⟩ := HDt.out; simp only [ByteArray.data_append, Array.toList_append, HS.out, d1, d2, d3, d4, HLW.out]; simp [ha, hb'])
            go_wp2_with (first | (go_at_call 19; refine (hnm _).mono ?_; rintro e w' ⟨rfl, rfl⟩) | (go_at_call 27; refine (hTq _).mono ?_; rintro e w4 ⟨rfl, hb4⟩; have HW4 := Lib.hid ((hb4.block _ (lt_of_blkC HW3.out)).trans HW3.out); have f4 := three_cellsC HW4.out; have HO4 := Lib.hid (HO3.out.trans (hb4.mono HO3.out.size)); clear hb4 f3 hTq) | (go_at_call 27; refine (hTa _).mono ?_; rintro e w5 ⟨rfl, hb5⟩; have HW5 := Lib.hid ((hb5.block _ (lt_of_blkC HW4.out)).trans HW4.out); have f5 := three_cellsC HW5.out; have HO5 := Lib.hid (HO4.out.trans (hb5.mono HO4.out.size)); clear hb5 f4 hTa))
            go_roundw
            case rel => exact ⟨f, p', _, ts ++ ln, by omega, hpl, htl2, rfl, rfl, HSn, HT3, HO5⟩
            case measure => simp [intOf]; omega
        · have hra1 : (ra != 0) = false := by rw [hra]; exact decide_eq_false ha
          clear hra
          by_cases hb' : 0 < sb
          · have hsb1 : ((sb : Int) != 0) = true := by rw [bne_iff_ne]; omega
            have HSn : Hid (((((((S ++ Tq) ++ ⟨#[32]⟩) ++ Tn) ++ ⟨#[32]⟩) ++ Tb) ++ ⟨#[10]⟩ : ByteArray).data.toList = ts ++ ln) := Lib.hid (by obtain ⟨d1, d2, d3, d4⟩ := HDt.out; simp only [ByteArray.data_append, Array.toList_append, HS.out, d1, d2, d3, d4, HLW.out]; simp [ha, hb'])
            go_wp2_with (first | (go_at_call 19; refine (hnm _).mono ?_; rintro e w' ⟨rfl, rfl⟩) | (go_at_call 27; refine (hTq _).mono ?_; rintro e w4 ⟨rfl, hb4⟩; have HW4 := Lib.hid ((hb4.block _ (lt_of_blkC HW3.out)).trans HW3.out); have f4 := three_cellsC HW4.out; have HO4 := Lib.hid (HO3.out.trans (hb4.mono HO3.out.size)); clear hb4 f3 hTq) | (go_at_call 27; refine (hTb _).mono ?_; rintro e w6 ⟨rfl, hb6⟩; have HO6 := Lib.hid (HO4.out.trans (hb6.mono HO4.out.size)); clear hb6 hTb))
            go_roundw
            case rel => exact ⟨f, p', _, ts ++ ln, by omega, hpl, htl2, rfl, rfl, HSn, HT3, HO6⟩
            case measure => simp [intOf]; omega
          · obtain rfl : sb = 0 := by omega
            have HSn : Hid (((((S ++ Tq) ++ ⟨#[32]⟩) ++ Tn) ++ ⟨#[10]⟩ : ByteArray).data.toList = ts ++ ln) := Lib.hid (by obtain ⟨d1, d2, d3, d4⟩ := HDt.out; simp only [ByteArray.data_append, Array.toList_append, HS.out, d1, d2, d3, d4, HLW.out]; simp [ha, hb'])
            go_wp2_with (first | (go_at_call 19; refine (hnm _).mono ?_; rintro e w' ⟨rfl, rfl⟩) | (go_at_call 27; refine (hTq _).mono ?_; rintro e w4 ⟨rfl, hb4⟩; have HW4 := Lib.hid ((hb4.block _ (lt_of_blkC HW3.out)).trans HW3.out); have f4 := three_cellsC HW4.out; have HO4 := Lib.hid (HO3.out.trans (hb4.mono HO3.out.size)); clear hb4 f3 hTq))
            go_roundw
            case rel => exact ⟨f, p', _, ts ++ ln, by omega, hpl, htl2, rfl, rfl, HSn, HT3, HO4⟩
            case measure => simp [intOf]; omega
      · have HT3 : Hid (R = .inr n) := Lib.hid (by rw [← HT.out, textD_bad hlt hD]; rfl)
        have hne : (n != 0) = true := by rcases decR_err hD with rfl | rfl | rfl <;> rfl
        clear HT hD
        go_wp2_with fail
        refine hdec.mono ?_
        rintro e w2 ⟨hb2, hcase⟩
        obtain ⟨y, p', hxp, _⟩ | ⟨n', hxp, rfl⟩ := hcase
        · cases hxp
        obtain rfl : n = n' := by cases hxp; rfl
        have hb3 : Below wr.heap.size wr (w2.alloc (.cells #[.int .i64 0, .int .i64 0, .int .i64 0] 26)) := hb2.alloc hb2.size _
        have hb8 := HO.out.trans (hb3.mono HO.out.size)
        clear hdec hxp
        unfold insV
        go_wp2_with fail
        go_ret2
        exact ⟨hb8, .inr ⟨n, HT3.out, rfl⟩⟩
    · have HT3 : Hid (R = .inl ts) := Lib.hid (by rw [← HT.out, textD_end hlt]; simp [addT])
      have HS2 : Hid (S = ⟨ts.toArray⟩) := Lib.hid (by rw [← HS.out])
      have hb8 := HO.out
      clear HT
      go_wp2_with fail
      go_ret2
      exact ⟨hb8, .inl ⟨ts, HT3.out, by rw [← HS2.out]; rfl⟩⟩
end Go.Proofs.YtghnpmhidcfghaaDoor.Fl

