/-
  The document's lexer: Spell of any token.
-/
import Derived.Test.YtakijeooaeflkaaGreatDoorLyF
import Derived.Test.YtakijeooaeflkaaGreatDoorLyP
import Derived.Test.YtakijeooaeflkaaGreatDoorLyT
namespace Go.Proofs.YtakijeooaeflkaaGreatDoor.Fl
open Go.RowKit

theorem eq_tokR (k k' n n' q q' : Int) (t t' : ByteArray) (w : World) : (Op.equalIn 10000 25 (.agg #[.int .i64 k, .string t, .int .i64 n, .int .i64 q]) (.agg #[.int .i64 k', .string t', .int .i64 n', .int .i64 q'])).run Tryz.prog w = .ok (k == k' && decide (t.toList = t'.toList) && n == n' && q == q') w :=
  have hS : Tryz.prog.underlying 25 = some (.struct (Tryz.prog.fieldsOf 25)) := by kernel_rfl
  by
  rw [show (10000 : Nat) = 9999 + 1 from rfl, run_equalIn_agg w 9999 25 _ _ hS (by kernel_rfl)]
  simp only [Program.fieldsOf, Tryz.underlying25]
  go_simp
  by_cases h1 : k = k' <;> by_cases h2 : t.toList = t'.toList <;> by_cases h3 : n = n' <;> by_cases h4 : q = q' <;> simp [h1, h2, h3, h4]
def RSpPost (k : Int) (t : ByteArray) (n : Int) (w : World) (e : Ending) (w' : World) : Prop :=
  Below w.heap.size w w' ∧ ((okT k (sb t) n ∧ e = .returned (.tuple #[.string (mkB (writK k (sb t) n)), .bool true])) ∨ (¬ okT k (sb t) n ∧ ∃ S, e = .returned (.tuple #[.string S, .bool false])))
theorem tok_ne {k' : Nat} {k n' n q' : Int} {tb t : ByteArray} {wd' : List UInt8} (hn : ¬ ((k' : Int) = k ∧ wd' = sb t ∧ n' = n)) (hb : sb tb = wd') : (((k' : Nat) : Int) == k && decide (tb.toList = t.toList) && n' == n && q' == 0) = false := by
  rw [Bool.eq_false_iff]
  intro h
  simp only [Bool.and_eq_true, beq_iff_eq, decide_eq_true_eq] at h
  refine hn ⟨h.1.1.1, ?_, h.1.2⟩
  have h2 := h.1.1.2
  rw [ByteArray.toList_eq, ByteArray.toList_eq] at h2
  rw [← hb]
  exact h2
theorem tok_eq {k n : Int} (t : ByteArray) (h0 : 0 ≤ k) : (((k.toNat : Nat) : Int) == k && decide (t.toList = t.toList) && n == n && (((0 : Nat) : Int)) == 0) = true := by
  simp
  omega
set_option maxRecDepth 100000 in
set_option maxHeartbeats 16000000 in
theorem rspell_any (k : Int) (t : ByteArray) (n q : Int) (w : World) (ht : t.size ≤ 1048576) (h0 : -9223372036854775808 ≤ n) (h1 : n ≤ 9223372036854775807) :
    Calls Tryz.prog 12 #[.agg #[.int .i64 k, .string t, .int .i64 n, .int .i64 q]] w (RSpPost k t n w) := by
  have hw0 := heap_alloc_new w (.cells #[.int .i64 k, .string t, .int .i64 n, .int .i64 q] 25)
  have hb0 : Below w.heap.size w (w.alloc (.cells #[.int .i64 k, .string t, .int .i64 n, .int .i64 q] 25)) := (Below.refl _ _).alloc (Nat.le_refl _) _
  have htx := rtext_anyL n (w.alloc (.cells #[.int .i64 k, .string t, .int .i64 n, .int .i64 q] 25)) h0 h1
  have hqu := fun w => rquote_any t w (by omega)
  have har := rarity_any t (w.alloc (.cells #[.int .i64 k, .string t, .int .i64 n, .int .i64 q] 25)) (by omega)
  have HIl := Lib.hid (itoa_len n h0 h1)
  have HQl : Hid ((mkB (quoL (sb t))).size ≤ 2097154) := Lib.hid (by
    have hl := dbl_len (sb t)
    rw [sb_len] at hl
    rw [mkB_size]
    simp only [quoL, List.length_cons, List.length_append, List.length_nil]
    omega)
  have hmk : mkB (sb t) = t := mk_sb t
  have HMK := Lib.hid hmk
  have HB0 := Lib.hid hb0
  have hBB : w.heap.size ≤ w.heap.size := Nat.le_refl _
  clear h0 h1 hmk hb0
  go_enter Tryz.func12, Tryz.ntmps12
  have f1 := cells4L hw0
  have l1 := lt_of_blk hw0
  go_upto_region 2 with fail
  generalize w.alloc (.cells #[.int .i64 k, .string t, .int .i64 n, .int .i64 q] 25) = w1 at *
  obtain ⟨B, hB⟩ : ∃ B, w.heap.size = B := ⟨_, rfl⟩
  have HBe := Lib.hid hB
  rw [hB] at hw0 l1 f1 ⊢
  have hBB : w.heap.size ≤ B := Nat.le_of_eq hB
  clear hB
  have hK : (k < 0 ∨ 16 < k) ∨ k = 0 ∨ k = 1 ∨ k = 2 ∨ k = 3 ∨ k = 4 ∨ k = 5 ∨ k = 6 ∨ k = 7 ∨ k = 8 ∨ k = 9 ∨ k = 10 ∨ k = 11 ∨ k = 12 ∨ k = 13 ∨ k = 14 ∨ k = 15 ∨ k = 16 := by omega
  rcases hK with ho | rfl | rfl | rfl | rfl | rfl | rfl | rfl | rfl | rfl | rfl | rfl | rfl | rfl | rfl | rfl | rfl | rfl
  · have hS0 : mkB (writK k (sb t) n) = ⟨#[]⟩ := by rw [writK_out ho]
    have n1 : (k == 1) = false := by rw [beq_eq_false_iff_ne]; omega
    have n2 : (k == 2) = false := by rw [beq_eq_false_iff_ne]; omega
    have n3 : (k == 3) = false := by rw [beq_eq_false_iff_ne]; omega
    have n4 : (k == 4) = false := by rw [beq_eq_false_iff_ne]; omega
    have n5 : (k == 5) = false := by rw [beq_eq_false_iff_ne]; omega
    have n6 : (k == 6) = false := by rw [beq_eq_false_iff_ne]; omega
    have n7 : (k == 7) = false := by rw [beq_eq_false_iff_ne]; omega
    have n8 : (k == 8) = false := by rw [beq_eq_false_iff_ne]; omega
    have n9 : (k == 9) = false := by rw [beq_eq_false_iff_ne]; omega
    have n10 : (k == 10) = false := by rw [beq_eq_false_iff_ne]; omega
    have n11 : (k == 11) = false := by rw [beq_eq_false_iff_ne]; omega
    have n12 : (k == 12) = false := by rw [beq_eq_false_iff_ne]; omega
    have n13 : (k == 13) = false := by rw [beq_eq_false_iff_ne]; omega
    have n14 : (k == 14) = false := by rw [beq_eq_false_iff_ne]; omega
    have n15 : (k == 15) = false := by rw [beq_eq_false_iff_ne]; omega
    have n16 : (k == 16) = false := by rw [beq_eq_false_iff_ne]; omega
    clear ho
    go_upto_region 30 with fail
    clear n1 n2 n3 n4 n5 n6 n7 n8 n9 n10 n11 n12 n13 n14 n15 n16
    obtain ⟨S, hS⟩ : ∃ S : ByteArray, (⟨#[]⟩ : ByteArray) = S := ⟨_, rfl⟩
    have HSz := Lib.hid (show S.size ≤ 16777216 by rw [← hS]; decide)
    have hSs := hS0.trans hS
    rw [hS]
    clear hS0 hS
    have hwx := hw0
    have HBx := HB0
    clear hw0 HB0 htx hqu har HIl HQl HMK
    generalize w1 = wx at *
    have HRx := Lib.hid (fun w' => rnext_any S 0 w' HSz.out (Nat.zero_le _))
    generalize hrr : tokR S 0 = rr at *
    have HX := Lib.hid hrr
    have HSx := Lib.hid hSs
    have hbs := HBx.out.size
    clear hrr hSs
    by_cases hok : okT k (sb t) n
    · have hbk := okT_back hok
      have hk0 := hok.1
      rw [HSx.out, HX.out] at hbk
      have HOK := Lib.hid hok
      have hki : ((k.toNat : Nat) : Int) = k := Int.toNat_of_nonneg hk0
      have hte : (k == k && decide (t.toList = t.toList) && n == n && (0 : Int) == 0) = true := by simp
      have hle : (mkB (writK k (sb t) n)).size = (writK k (sb t) n).length := mkB_size _
      rw [HSx.out] at hle
      rw [← hle] at hbk
      have hes := fun w => eq_tokR k k n n 0 0 t t w
      rw [hte] at hes
      clear hok hte hle hk0
      generalize k.toNat = k' at *
      go_upto_region 31 with fail
      clear f1 l1
      have hHK := heap_setCell_same wx B 3 _ _ (.int .i64 0) hwx
      have HB2 := Lib.hid (HBx.out.setCell (p := ⟨B, 3, none⟩) hBB (.int .i64 0))
      generalize wx.setCell ⟨B, 3, none⟩ (.int .i64 0) = w2 at *
      have l2 := lt_of_blk hHK
      go_wp2_with fail
      refine (HRx.out w2).mono ?_
      rintro e w3 ⟨hb3, (⟨k3, t3, n3, q3, p3, tb, hr3, hq3, hp3, htb, rfl⟩ | ⟨n3, q3, hr3, _⟩)⟩
      case inr => rw [hbk] at hr3; cases hr3
      rw [hbk] at hr3
      simp only [Sum.inl.injEq, Prod.mk.injEq] at hr3
      obtain ⟨rfl, rfl, rfl, rfl, rfl⟩ := hr3
      have htt : tb = t := sb_inj htb
      subst htt
      have hw3 := (hb3.block _ l2).trans hHK
      have l3 := lt_of_blk hw3
      have HB3 := Lib.hid (HB2.out.trans (hb3.mono HB2.out.size))
      have hb4 : Below w3.heap.size w3 (w3.alloc (.cells #[.int .i64 k, .string tb, .int .i64 n, .int .i64 0] 25)) := (Below.refl _ _).alloc (Nat.le_refl _) _
      have HB4 := Lib.hid (HB3.out.trans (hb4.mono HB3.out.size))
      have f3 := cells4L hw3
      have f4 := cells4L ((hb4.block _ l3).trans hw3)
      have f5 := cells4L (heap_alloc_new w3 (.cells #[.int .i64 k, .string tb, .int .i64 n, .int .i64 0] 25))
      have l5 : w3.heap.size < (w3.alloc (.cells #[.int .i64 k, .string tb, .int .i64 n, .int .i64 0] 25)).heap.size := lt_of_blk (heap_alloc_new w3 _)
      have l4 := Nat.lt_of_lt_of_le l3 hb4.size
      unfold tokV
      rw [hki]
      clear hki
      clear HRx HB2 HB3 hb3 hb4 hHK hw3 l2 htb hp3 hq3 HX
      go_wp2_with fail
      go_ret2
      exact ⟨HB4.out, .inl ⟨HOK.out, by rw [HSx.out]; rfl⟩⟩
    · have HOK := Lib.hid hok
      have HNo := Lib.hid (okT_iff k (sb t) n hok)
      rw [HSx.out, HX.out] at HNo
      have hte := HNo.out
      clear hok HNo
      have HNo := Lib.hid hte
      clear hte
      go_upto_region 31 with fail
      clear f1 l1
      have hHK := heap_setCell_same wx B 3 _ _ (.int .i64 0) hwx
      have HB2 := Lib.hid (HBx.out.setCell (p := ⟨B, 3, none⟩) hBB (.int .i64 0))
      generalize wx.setCell ⟨B, 3, none⟩ (.int .i64 0) = w2 at *
      have l2 := lt_of_blk hHK
      go_wp2_with fail
      refine (HRx.out w2).mono ?_
      rintro e w3 ⟨hb3, (⟨k3, t3, n3, q3, p3, tb, hr3, hq3, hp3, htb, rfl⟩ | ⟨n3, q3, hr3, hq3, rfl⟩)⟩
      · have hes := fun w => eq_tokR (k3 : Int) k n3 n (q3 : Int) 0 tb t w
        rw [tok_ne (HNo.out k3 t3 n3 q3 p3 hr3) htb] at hes
        have hw3 := (hb3.block _ l2).trans hHK
        have l3 := lt_of_blk hw3
        have HB3 := Lib.hid (HB2.out.trans (hb3.mono HB2.out.size))
        have hb4 : Below w3.heap.size w3 (w3.alloc (.cells #[.int .i64 (k3 : Int), .string tb, .int .i64 n3, .int .i64 (q3 : Int)] 25)) := (Below.refl _ _).alloc (Nat.le_refl _) _
        have HB4 := Lib.hid (HB3.out.trans (hb4.mono HB3.out.size))
        have f3 := cells4L hw3
        have f4 := cells4L ((hb4.block _ l3).trans hw3)
        have f5 := cells4L (heap_alloc_new w3 (.cells #[.int .i64 (k3 : Int), .string tb, .int .i64 n3, .int .i64 (q3 : Int)] 25))
        have l5 : w3.heap.size < (w3.alloc (.cells #[.int .i64 (k3 : Int), .string tb, .int .i64 n3, .int .i64 (q3 : Int)] 25)).heap.size := lt_of_blk (heap_alloc_new w3 _)
        have l4 := Nat.lt_of_lt_of_le l3 hb4.size
        unfold tokV
        clear HRx HB2 HB3 hb3 hb4 hHK hw3 l2 htb hp3 hq3 HX hr3 HNo
        go_wp2_with fail
        go_ret2
        exact ⟨HB4.out, .inr ⟨HOK.out, _, rfl⟩⟩
      · have hn3 := tokR_err (HX.out.trans hr3)
        have hnb : (n3 == 0) = false := by rw [beq_eq_false_iff_ne]; exact hn3
        have HB3 := Lib.hid ((HB2.out.trans (hb3.mono HB2.out.size)).alloc (HB2.out.trans (hb3.mono HB2.out.size)).size (.cells #[.int .i64 0, .string ⟨#[]⟩, .int .i64 0, .int .i64 0] 25))
        unfold tokV
        clear HRx HB2 hb3 hHK l2 hq3 HX hr3 HNo hn3
        go_wp2_with fail
        go_ret2
        exact ⟨HB3.out, .inr ⟨HOK.out, _, rfl⟩⟩
  · have hS0 : mkB (writK 0 (sb t) n) = ⟨#[]⟩ := rfl
    go_upto_region 30 with fail
    obtain ⟨S, hS⟩ : ∃ S : ByteArray, (⟨#[]⟩ : ByteArray) = S := ⟨_, rfl⟩
    have HSz := Lib.hid (show S.size ≤ 16777216 by rw [← hS]; decide)
    have hSs := hS0.trans hS
    rw [hS]
    clear hS0 hS
    have hwx := hw0
    have HBx := HB0
    clear hw0 HB0 htx hqu har HIl HQl HMK
    generalize w1 = wx at *
    have HRx := Lib.hid (fun w' => rnext_any S 0 w' HSz.out (Nat.zero_le _))
    generalize hrr : tokR S 0 = rr at *
    have HX := Lib.hid hrr
    have HSx := Lib.hid hSs
    have hbs := HBx.out.size
    clear hrr hSs
    by_cases hok : okT 0 (sb t) n
    · have hbk := okT_back hok
      have hk0 := hok.1
      rw [HSx.out, HX.out] at hbk
      have HOK := Lib.hid hok
      have hki : (((0 : Int).toNat : Nat) : Int) = (0 : Int) := Int.toNat_of_nonneg hk0
      have hte : ((0 : Int) == (0 : Int) && decide (t.toList = t.toList) && n == n && (0 : Int) == 0) = true := by simp
      have hle : (mkB (writK 0 (sb t) n)).size = (writK 0 (sb t) n).length := mkB_size _
      rw [HSx.out] at hle
      rw [← hle] at hbk
      have hes := fun w => eq_tokR (0 : Int) (0 : Int) n n 0 0 t t w
      rw [hte] at hes
      clear hok hte hle hk0
      generalize (0 : Int).toNat = k' at *
      go_upto_region 31 with fail
      clear f1 l1
      have hHK := heap_setCell_same wx B 3 _ _ (.int .i64 0) hwx
      have HB2 := Lib.hid (HBx.out.setCell (p := ⟨B, 3, none⟩) hBB (.int .i64 0))
      generalize wx.setCell ⟨B, 3, none⟩ (.int .i64 0) = w2 at *
      have l2 := lt_of_blk hHK
      go_wp2_with fail
      refine (HRx.out w2).mono ?_
      rintro e w3 ⟨hb3, (⟨k3, t3, n3, q3, p3, tb, hr3, hq3, hp3, htb, rfl⟩ | ⟨n3, q3, hr3, _⟩)⟩
      case inr => rw [hbk] at hr3; cases hr3
      rw [hbk] at hr3
      simp only [Sum.inl.injEq, Prod.mk.injEq] at hr3
      obtain ⟨rfl, rfl, rfl, rfl, rfl⟩ := hr3
      have htt : tb = t := sb_inj htb
      subst htt
      have hw3 := (hb3.block _ l2).trans hHK
      have l3 := lt_of_blk hw3
      have HB3 := Lib.hid (HB2.out.trans (hb3.mono HB2.out.size))
      have hb4 : Below w3.heap.size w3 (w3.alloc (.cells #[.int .i64 (0 : Int), .string tb, .int .i64 n, .int .i64 0] 25)) := (Below.refl _ _).alloc (Nat.le_refl _) _
      have HB4 := Lib.hid (HB3.out.trans (hb4.mono HB3.out.size))
      have f3 := cells4L hw3
      have f4 := cells4L ((hb4.block _ l3).trans hw3)
      have f5 := cells4L (heap_alloc_new w3 (.cells #[.int .i64 (0 : Int), .string tb, .int .i64 n, .int .i64 0] 25))
      have l5 : w3.heap.size < (w3.alloc (.cells #[.int .i64 (0 : Int), .string tb, .int .i64 n, .int .i64 0] 25)).heap.size := lt_of_blk (heap_alloc_new w3 _)
      have l4 := Nat.lt_of_lt_of_le l3 hb4.size
      unfold tokV
      rw [hki]
      clear hki
      clear HRx HB2 HB3 hb3 hb4 hHK hw3 l2 htb hp3 hq3 HX
      go_wp2_with fail
      go_ret2
      exact ⟨HB4.out, .inl ⟨HOK.out, by rw [HSx.out]; rfl⟩⟩
    · have HOK := Lib.hid hok
      have HNo := Lib.hid (okT_iff 0 (sb t) n hok)
      rw [HSx.out, HX.out] at HNo
      have hte := HNo.out
      clear hok HNo
      have HNo := Lib.hid hte
      clear hte
      go_upto_region 31 with fail
      clear f1 l1
      have hHK := heap_setCell_same wx B 3 _ _ (.int .i64 0) hwx
      have HB2 := Lib.hid (HBx.out.setCell (p := ⟨B, 3, none⟩) hBB (.int .i64 0))
      generalize wx.setCell ⟨B, 3, none⟩ (.int .i64 0) = w2 at *
      have l2 := lt_of_blk hHK
      go_wp2_with fail
      refine (HRx.out w2).mono ?_
      rintro e w3 ⟨hb3, (⟨k3, t3, n3, q3, p3, tb, hr3, hq3, hp3, htb, rfl⟩ | ⟨n3, q3, hr3, hq3, rfl⟩)⟩
      · have hes := fun w => eq_tokR (k3 : Int) 0 n3 n (q3 : Int) 0 tb t w
        rw [tok_ne (HNo.out k3 t3 n3 q3 p3 hr3) htb] at hes
        have hw3 := (hb3.block _ l2).trans hHK
        have l3 := lt_of_blk hw3
        have HB3 := Lib.hid (HB2.out.trans (hb3.mono HB2.out.size))
        have hb4 : Below w3.heap.size w3 (w3.alloc (.cells #[.int .i64 (k3 : Int), .string tb, .int .i64 n3, .int .i64 (q3 : Int)] 25)) := (Below.refl _ _).alloc (Nat.le_refl _) _
        have HB4 := Lib.hid (HB3.out.trans (hb4.mono HB3.out.size))
        have f3 := cells4L hw3
        have f4 := cells4L ((hb4.block _ l3).trans hw3)
        have f5 := cells4L (heap_alloc_new w3 (.cells #[.int .i64 (k3 : Int), .string tb, .int .i64 n3, .int .i64 (q3 : Int)] 25))
        have l5 : w3.heap.size < (w3.alloc (.cells #[.int .i64 (k3 : Int), .string tb, .int .i64 n3, .int .i64 (q3 : Int)] 25)).heap.size := lt_of_blk (heap_alloc_new w3 _)
        have l4 := Nat.lt_of_lt_of_le l3 hb4.size
        unfold tokV
        clear HRx HB2 HB3 hb3 hb4 hHK hw3 l2 htb hp3 hq3 HX hr3 HNo
        go_wp2_with fail
        go_ret2
        exact ⟨HB4.out, .inr ⟨HOK.out, _, rfl⟩⟩
      · have hn3 := tokR_err (HX.out.trans hr3)
        have hnb : (n3 == 0) = false := by rw [beq_eq_false_iff_ne]; exact hn3
        have HB3 := Lib.hid ((HB2.out.trans (hb3.mono HB2.out.size)).alloc (HB2.out.trans (hb3.mono HB2.out.size)).size (.cells #[.int .i64 0, .string ⟨#[]⟩, .int .i64 0, .int .i64 0] 25))
        unfold tokV
        clear HRx HB2 hb3 hHK l2 hq3 HX hr3 HNo hn3
        go_wp2_with fail
        go_ret2
        exact ⟨HB3.out, .inr ⟨HOK.out, _, rfl⟩⟩
  · have hSs : mkB (writK 1 (sb t) n) = t := HMK.out
    have HSz := Lib.hid (show t.size ≤ 16777216 by omega)
    go_upto_region 30 with fail
    have hwx := hw0
    have HBx := HB0
    clear hw0 HB0 htx hqu har HIl HQl HMK
    generalize w1 = wx at *
    have HRx := Lib.hid (fun w' => rnext_any t 0 w' HSz.out (Nat.zero_le _))
    generalize hrr : tokR t 0 = rr at *
    have HX := Lib.hid hrr
    have HSx := Lib.hid hSs
    have hbs := HBx.out.size
    clear hrr hSs
    by_cases hok : okT 1 (sb t) n
    · have hbk := okT_back hok
      have hk0 := hok.1
      rw [HSx.out, HX.out] at hbk
      have HOK := Lib.hid hok
      have hki : (((1 : Int).toNat : Nat) : Int) = (1 : Int) := Int.toNat_of_nonneg hk0
      have hte : ((1 : Int) == (1 : Int) && decide (t.toList = t.toList) && n == n && (0 : Int) == 0) = true := by simp
      have hle : (mkB (writK 1 (sb t) n)).size = (writK 1 (sb t) n).length := mkB_size _
      rw [HSx.out] at hle
      rw [← hle] at hbk
      have hes := fun w => eq_tokR (1 : Int) (1 : Int) n n 0 0 t t w
      rw [hte] at hes
      clear hok hte hle hk0
      generalize (1 : Int).toNat = k' at *
      go_upto_region 31 with fail
      clear f1 l1
      have hHK := heap_setCell_same wx B 3 _ _ (.int .i64 0) hwx
      have HB2 := Lib.hid (HBx.out.setCell (p := ⟨B, 3, none⟩) hBB (.int .i64 0))
      generalize wx.setCell ⟨B, 3, none⟩ (.int .i64 0) = w2 at *
      have l2 := lt_of_blk hHK
      go_wp2_with fail
      refine (HRx.out w2).mono ?_
      rintro e w3 ⟨hb3, (⟨k3, t3, n3, q3, p3, tb, hr3, hq3, hp3, htb, rfl⟩ | ⟨n3, q3, hr3, _⟩)⟩
      case inr => rw [hbk] at hr3; cases hr3
      rw [hbk] at hr3
      simp only [Sum.inl.injEq, Prod.mk.injEq] at hr3
      obtain ⟨rfl, rfl, rfl, rfl, rfl⟩ := hr3
      have htt : tb = t := sb_inj htb
      subst htt
      have hw3 := (hb3.block _ l2).trans hHK
      have l3 := lt_of_blk hw3
      have HB3 := Lib.hid (HB2.out.trans (hb3.mono HB2.out.size))
      have hb4 : Below w3.heap.size w3 (w3.alloc (.cells #[.int .i64 (1 : Int), .string tb, .int .i64 n, .int .i64 0] 25)) := (Below.refl _ _).alloc (Nat.le_refl _) _
      have HB4 := Lib.hid (HB3.out.trans (hb4.mono HB3.out.size))
      have f3 := cells4L hw3
      have f4 := cells4L ((hb4.block _ l3).trans hw3)
      have f5 := cells4L (heap_alloc_new w3 (.cells #[.int .i64 (1 : Int), .string tb, .int .i64 n, .int .i64 0] 25))
      have l5 : w3.heap.size < (w3.alloc (.cells #[.int .i64 (1 : Int), .string tb, .int .i64 n, .int .i64 0] 25)).heap.size := lt_of_blk (heap_alloc_new w3 _)
      have l4 := Nat.lt_of_lt_of_le l3 hb4.size
      unfold tokV
      rw [hki]
      clear hki
      clear HRx HB2 HB3 hb3 hb4 hHK hw3 l2 htb hp3 hq3 HX
      go_wp2_with fail
      go_ret2
      exact ⟨HB4.out, .inl ⟨HOK.out, by rw [HSx.out]; rfl⟩⟩
    · have HOK := Lib.hid hok
      have HNo := Lib.hid (okT_iff 1 (sb t) n hok)
      rw [HSx.out, HX.out] at HNo
      have hte := HNo.out
      clear hok HNo
      have HNo := Lib.hid hte
      clear hte
      go_upto_region 31 with fail
      clear f1 l1
      have hHK := heap_setCell_same wx B 3 _ _ (.int .i64 0) hwx
      have HB2 := Lib.hid (HBx.out.setCell (p := ⟨B, 3, none⟩) hBB (.int .i64 0))
      generalize wx.setCell ⟨B, 3, none⟩ (.int .i64 0) = w2 at *
      have l2 := lt_of_blk hHK
      go_wp2_with fail
      refine (HRx.out w2).mono ?_
      rintro e w3 ⟨hb3, (⟨k3, t3, n3, q3, p3, tb, hr3, hq3, hp3, htb, rfl⟩ | ⟨n3, q3, hr3, hq3, rfl⟩)⟩
      · have hes := fun w => eq_tokR (k3 : Int) 1 n3 n (q3 : Int) 0 tb t w
        rw [tok_ne (HNo.out k3 t3 n3 q3 p3 hr3) htb] at hes
        have hw3 := (hb3.block _ l2).trans hHK
        have l3 := lt_of_blk hw3
        have HB3 := Lib.hid (HB2.out.trans (hb3.mono HB2.out.size))
        have hb4 : Below w3.heap.size w3 (w3.alloc (.cells #[.int .i64 (k3 : Int), .string tb, .int .i64 n3, .int .i64 (q3 : Int)] 25)) := (Below.refl _ _).alloc (Nat.le_refl _) _
        have HB4 := Lib.hid (HB3.out.trans (hb4.mono HB3.out.size))
        have f3 := cells4L hw3
        have f4 := cells4L ((hb4.block _ l3).trans hw3)
        have f5 := cells4L (heap_alloc_new w3 (.cells #[.int .i64 (k3 : Int), .string tb, .int .i64 n3, .int .i64 (q3 : Int)] 25))
        have l5 : w3.heap.size < (w3.alloc (.cells #[.int .i64 (k3 : Int), .string tb, .int .i64 n3, .int .i64 (q3 : Int)] 25)).heap.size := lt_of_blk (heap_alloc_new w3 _)
        have l4 := Nat.lt_of_lt_of_le l3 hb4.size
        unfold tokV
        clear HRx HB2 HB3 hb3 hb4 hHK hw3 l2 htb hp3 hq3 HX hr3 HNo
        go_wp2_with fail
        go_ret2
        exact ⟨HB4.out, .inr ⟨HOK.out, _, rfl⟩⟩
      · have hn3 := tokR_err (HX.out.trans hr3)
        have hnb : (n3 == 0) = false := by rw [beq_eq_false_iff_ne]; exact hn3
        have HB3 := Lib.hid ((HB2.out.trans (hb3.mono HB2.out.size)).alloc (HB2.out.trans (hb3.mono HB2.out.size)).size (.cells #[.int .i64 0, .string ⟨#[]⟩, .int .i64 0, .int .i64 0] 25))
        unfold tokV
        clear HRx HB2 hb3 hHK l2 hq3 HX hr3 HNo hn3
        go_wp2_with fail
        go_ret2
        exact ⟨HB3.out, .inr ⟨HOK.out, _, rfl⟩⟩
  · have hSs : mkB (writK 2 (sb t) n) = t := HMK.out
    have HSz := Lib.hid (show t.size ≤ 16777216 by omega)
    go_upto_region 30 with fail
    have hwx := hw0
    have HBx := HB0
    clear hw0 HB0 htx hqu har HIl HQl HMK
    generalize w1 = wx at *
    have HRx := Lib.hid (fun w' => rnext_any t 0 w' HSz.out (Nat.zero_le _))
    generalize hrr : tokR t 0 = rr at *
    have HX := Lib.hid hrr
    have HSx := Lib.hid hSs
    have hbs := HBx.out.size
    clear hrr hSs
    by_cases hok : okT 2 (sb t) n
    · have hbk := okT_back hok
      have hk0 := hok.1
      rw [HSx.out, HX.out] at hbk
      have HOK := Lib.hid hok
      have hki : (((2 : Int).toNat : Nat) : Int) = (2 : Int) := Int.toNat_of_nonneg hk0
      have hte : ((2 : Int) == (2 : Int) && decide (t.toList = t.toList) && n == n && (0 : Int) == 0) = true := by simp
      have hle : (mkB (writK 2 (sb t) n)).size = (writK 2 (sb t) n).length := mkB_size _
      rw [HSx.out] at hle
      rw [← hle] at hbk
      have hes := fun w => eq_tokR (2 : Int) (2 : Int) n n 0 0 t t w
      rw [hte] at hes
      clear hok hte hle hk0
      generalize (2 : Int).toNat = k' at *
      go_upto_region 31 with fail
      clear f1 l1
      have hHK := heap_setCell_same wx B 3 _ _ (.int .i64 0) hwx
      have HB2 := Lib.hid (HBx.out.setCell (p := ⟨B, 3, none⟩) hBB (.int .i64 0))
      generalize wx.setCell ⟨B, 3, none⟩ (.int .i64 0) = w2 at *
      have l2 := lt_of_blk hHK
      go_wp2_with fail
      refine (HRx.out w2).mono ?_
      rintro e w3 ⟨hb3, (⟨k3, t3, n3, q3, p3, tb, hr3, hq3, hp3, htb, rfl⟩ | ⟨n3, q3, hr3, _⟩)⟩
      case inr => rw [hbk] at hr3; cases hr3
      rw [hbk] at hr3
      simp only [Sum.inl.injEq, Prod.mk.injEq] at hr3
      obtain ⟨rfl, rfl, rfl, rfl, rfl⟩ := hr3
      have htt : tb = t := sb_inj htb
      subst htt
      have hw3 := (hb3.block _ l2).trans hHK
      have l3 := lt_of_blk hw3
      have HB3 := Lib.hid (HB2.out.trans (hb3.mono HB2.out.size))
      have hb4 : Below w3.heap.size w3 (w3.alloc (.cells #[.int .i64 (2 : Int), .string tb, .int .i64 n, .int .i64 0] 25)) := (Below.refl _ _).alloc (Nat.le_refl _) _
      have HB4 := Lib.hid (HB3.out.trans (hb4.mono HB3.out.size))
      have f3 := cells4L hw3
      have f4 := cells4L ((hb4.block _ l3).trans hw3)
      have f5 := cells4L (heap_alloc_new w3 (.cells #[.int .i64 (2 : Int), .string tb, .int .i64 n, .int .i64 0] 25))
      have l5 : w3.heap.size < (w3.alloc (.cells #[.int .i64 (2 : Int), .string tb, .int .i64 n, .int .i64 0] 25)).heap.size := lt_of_blk (heap_alloc_new w3 _)
      have l4 := Nat.lt_of_lt_of_le l3 hb4.size
      unfold tokV
      rw [hki]
      clear hki
      clear HRx HB2 HB3 hb3 hb4 hHK hw3 l2 htb hp3 hq3 HX
      go_wp2_with fail
      go_ret2
      exact ⟨HB4.out, .inl ⟨HOK.out, by rw [HSx.out]; rfl⟩⟩
    · have HOK := Lib.hid hok
      have HNo := Lib.hid (okT_iff 2 (sb t) n hok)
      rw [HSx.out, HX.out] at HNo
      have hte := HNo.out
      clear hok HNo
      have HNo := Lib.hid hte
      clear hte
      go_upto_region 31 with fail
      clear f1 l1
      have hHK := heap_setCell_same wx B 3 _ _ (.int .i64 0) hwx
      have HB2 := Lib.hid (HBx.out.setCell (p := ⟨B, 3, none⟩) hBB (.int .i64 0))
      generalize wx.setCell ⟨B, 3, none⟩ (.int .i64 0) = w2 at *
      have l2 := lt_of_blk hHK
      go_wp2_with fail
      refine (HRx.out w2).mono ?_
      rintro e w3 ⟨hb3, (⟨k3, t3, n3, q3, p3, tb, hr3, hq3, hp3, htb, rfl⟩ | ⟨n3, q3, hr3, hq3, rfl⟩)⟩
      · have hes := fun w => eq_tokR (k3 : Int) 2 n3 n (q3 : Int) 0 tb t w
        rw [tok_ne (HNo.out k3 t3 n3 q3 p3 hr3) htb] at hes
        have hw3 := (hb3.block _ l2).trans hHK
        have l3 := lt_of_blk hw3
        have HB3 := Lib.hid (HB2.out.trans (hb3.mono HB2.out.size))
        have hb4 : Below w3.heap.size w3 (w3.alloc (.cells #[.int .i64 (k3 : Int), .string tb, .int .i64 n3, .int .i64 (q3 : Int)] 25)) := (Below.refl _ _).alloc (Nat.le_refl _) _
        have HB4 := Lib.hid (HB3.out.trans (hb4.mono HB3.out.size))
        have f3 := cells4L hw3
        have f4 := cells4L ((hb4.block _ l3).trans hw3)
        have f5 := cells4L (heap_alloc_new w3 (.cells #[.int .i64 (k3 : Int), .string tb, .int .i64 n3, .int .i64 (q3 : Int)] 25))
        have l5 : w3.heap.size < (w3.alloc (.cells #[.int .i64 (k3 : Int), .string tb, .int .i64 n3, .int .i64 (q3 : Int)] 25)).heap.size := lt_of_blk (heap_alloc_new w3 _)
        have l4 := Nat.lt_of_lt_of_le l3 hb4.size
        unfold tokV
        clear HRx HB2 HB3 hb3 hb4 hHK hw3 l2 htb hp3 hq3 HX hr3 HNo
        go_wp2_with fail
        go_ret2
        exact ⟨HB4.out, .inr ⟨HOK.out, _, rfl⟩⟩
      · have hn3 := tokR_err (HX.out.trans hr3)
        have hnb : (n3 == 0) = false := by rw [beq_eq_false_iff_ne]; exact hn3
        have HB3 := Lib.hid ((HB2.out.trans (hb3.mono HB2.out.size)).alloc (HB2.out.trans (hb3.mono HB2.out.size)).size (.cells #[.int .i64 0, .string ⟨#[]⟩, .int .i64 0, .int .i64 0] 25))
        unfold tokV
        clear HRx HB2 hb3 hHK l2 hq3 HX hr3 HNo hn3
        go_wp2_with fail
        go_ret2
        exact ⟨HB3.out, .inr ⟨HOK.out, _, rfl⟩⟩
  · have hS0 : mkB (writK 3 (sb t) n) = mkB (Lib.itoa n) := rfl
    go_upto_region 30 with (first | (go_at_call 27; refine htx.mono ?_; rintro e w2 ⟨rfl, hb2⟩))
    obtain ⟨S, hS⟩ : ∃ S : ByteArray, (⟨(Lib.itoa n).toArray⟩ : ByteArray) = S := ⟨_, rfl⟩
    have HSz := Lib.hid (show S.size ≤ 16777216 by rw [← hS]; have := HIl.out; rw [mkL_size]; omega)
    have hSs : mkB (writK 3 (sb t) n) = S := hS0.trans hS
    rw [hS]
    clear hS0 hS
    have hwx := (hb2.block _ l1).trans hw0
    have HBx := Lib.hid (HB0.out.trans (hb2.mono HB0.out.size))
    clear hw0 HB0 htx hqu har HIl HQl HMK hb2 f1 l1
    generalize w2 = wx at *
    have f1 := cells4L hwx
    have l1 := lt_of_blk hwx
    have HRx := Lib.hid (fun w' => rnext_any S 0 w' HSz.out (Nat.zero_le _))
    generalize hrr : tokR S 0 = rr at *
    have HX := Lib.hid hrr
    have HSx := Lib.hid hSs
    have hbs := HBx.out.size
    clear hrr hSs
    by_cases hok : okT 3 (sb t) n
    · have hbk := okT_back hok
      have hk0 := hok.1
      rw [HSx.out, HX.out] at hbk
      have HOK := Lib.hid hok
      have hki : (((3 : Int).toNat : Nat) : Int) = (3 : Int) := Int.toNat_of_nonneg hk0
      have hte : ((3 : Int) == (3 : Int) && decide (t.toList = t.toList) && n == n && (0 : Int) == 0) = true := by simp
      have hle : (mkB (writK 3 (sb t) n)).size = (writK 3 (sb t) n).length := mkB_size _
      rw [HSx.out] at hle
      rw [← hle] at hbk
      have hes := fun w => eq_tokR (3 : Int) (3 : Int) n n 0 0 t t w
      rw [hte] at hes
      clear hok hte hle hk0
      generalize (3 : Int).toNat = k' at *
      go_upto_region 31 with fail
      clear f1 l1
      have hHK := heap_setCell_same wx B 3 _ _ (.int .i64 0) hwx
      have HB2 := Lib.hid (HBx.out.setCell (p := ⟨B, 3, none⟩) hBB (.int .i64 0))
      generalize wx.setCell ⟨B, 3, none⟩ (.int .i64 0) = w2 at *
      have l2 := lt_of_blk hHK
      go_wp2_with fail
      refine (HRx.out w2).mono ?_
      rintro e w3 ⟨hb3, (⟨k3, t3, n3, q3, p3, tb, hr3, hq3, hp3, htb, rfl⟩ | ⟨n3, q3, hr3, _⟩)⟩
      case inr => rw [hbk] at hr3; cases hr3
      rw [hbk] at hr3
      simp only [Sum.inl.injEq, Prod.mk.injEq] at hr3
      obtain ⟨rfl, rfl, rfl, rfl, rfl⟩ := hr3
      have htt : tb = t := sb_inj htb
      subst htt
      have hw3 := (hb3.block _ l2).trans hHK
      have l3 := lt_of_blk hw3
      have HB3 := Lib.hid (HB2.out.trans (hb3.mono HB2.out.size))
      have hb4 : Below w3.heap.size w3 (w3.alloc (.cells #[.int .i64 (3 : Int), .string tb, .int .i64 n, .int .i64 0] 25)) := (Below.refl _ _).alloc (Nat.le_refl _) _
      have HB4 := Lib.hid (HB3.out.trans (hb4.mono HB3.out.size))
      have f3 := cells4L hw3
      have f4 := cells4L ((hb4.block _ l3).trans hw3)
      have f5 := cells4L (heap_alloc_new w3 (.cells #[.int .i64 (3 : Int), .string tb, .int .i64 n, .int .i64 0] 25))
      have l5 : w3.heap.size < (w3.alloc (.cells #[.int .i64 (3 : Int), .string tb, .int .i64 n, .int .i64 0] 25)).heap.size := lt_of_blk (heap_alloc_new w3 _)
      have l4 := Nat.lt_of_lt_of_le l3 hb4.size
      unfold tokV
      rw [hki]
      clear hki
      clear HRx HB2 HB3 hb3 hb4 hHK hw3 l2 htb hp3 hq3 HX
      go_wp2_with fail
      go_ret2
      exact ⟨HB4.out, .inl ⟨HOK.out, by rw [HSx.out]; rfl⟩⟩
    · have HOK := Lib.hid hok
      have HNo := Lib.hid (okT_iff 3 (sb t) n hok)
      rw [HSx.out, HX.out] at HNo
      have hte := HNo.out
      clear hok HNo
      have HNo := Lib.hid hte
      clear hte
      go_upto_region 31 with fail
      clear f1 l1
      have hHK := heap_setCell_same wx B 3 _ _ (.int .i64 0) hwx
      have HB2 := Lib.hid (HBx.out.setCell (p := ⟨B, 3, none⟩) hBB (.int .i64 0))
      generalize wx.setCell ⟨B, 3, none⟩ (.int .i64 0) = w2 at *
      have l2 := lt_of_blk hHK
      go_wp2_with fail
      refine (HRx.out w2).mono ?_
      rintro e w3 ⟨hb3, (⟨k3, t3, n3, q3, p3, tb, hr3, hq3, hp3, htb, rfl⟩ | ⟨n3, q3, hr3, hq3, rfl⟩)⟩
      · have hes := fun w => eq_tokR (k3 : Int) 3 n3 n (q3 : Int) 0 tb t w
        rw [tok_ne (HNo.out k3 t3 n3 q3 p3 hr3) htb] at hes
        have hw3 := (hb3.block _ l2).trans hHK
        have l3 := lt_of_blk hw3
        have HB3 := Lib.hid (HB2.out.trans (hb3.mono HB2.out.size))
        have hb4 : Below w3.heap.size w3 (w3.alloc (.cells #[.int .i64 (k3 : Int), .string tb, .int .i64 n3, .int .i64 (q3 : Int)] 25)) := (Below.refl _ _).alloc (Nat.le_refl _) _
        have HB4 := Lib.hid (HB3.out.trans (hb4.mono HB3.out.size))
        have f3 := cells4L hw3
        have f4 := cells4L ((hb4.block _ l3).trans hw3)
        have f5 := cells4L (heap_alloc_new w3 (.cells #[.int .i64 (k3 : Int), .string tb, .int .i64 n3, .int .i64 (q3 : Int)] 25))
        have l5 : w3.heap.size < (w3.alloc (.cells #[.int .i64 (k3 : Int), .string tb, .int .i64 n3, .int .i64 (q3 : Int)] 25)).heap.size := lt_of_blk (heap_alloc_new w3 _)
        have l4 := Nat.lt_of_lt_of_le l3 hb4.size
        unfold tokV
        clear HRx HB2 HB3 hb3 hb4 hHK hw3 l2 htb hp3 hq3 HX hr3 HNo
        go_wp2_with fail
        go_ret2
        exact ⟨HB4.out, .inr ⟨HOK.out, _, rfl⟩⟩
      · have hn3 := tokR_err (HX.out.trans hr3)
        have hnb : (n3 == 0) = false := by rw [beq_eq_false_iff_ne]; exact hn3
        have HB3 := Lib.hid ((HB2.out.trans (hb3.mono HB2.out.size)).alloc (HB2.out.trans (hb3.mono HB2.out.size)).size (.cells #[.int .i64 0, .string ⟨#[]⟩, .int .i64 0, .int .i64 0] 25))
        unfold tokV
        clear HRx HB2 hb3 hHK l2 hq3 HX hr3 HNo hn3
        go_wp2_with fail
        go_ret2
        exact ⟨HB3.out, .inr ⟨HOK.out, _, rfl⟩⟩
  · have hS0 : mkB (writK 4 (sb t) n) = mkB (quoL (sb t)) := rfl
    obtain ⟨S, hS⟩ : ∃ S : ByteArray, mkB (quoL (sb t)) = S := ⟨_, rfl⟩
    rw [hS] at HQl
    simp only [hS] at hqu
    go_upto_region 30 with (first | (go_at_call 28; refine (hqu _).mono ?_; rintro e w2 ⟨rfl, hb2⟩))
    have HSz := Lib.hid (show S.size ≤ 16777216 by have := HQl.out; omega)
    have hSs : mkB (writK 4 (sb t) n) = S := hS0.trans hS
    clear hS0 hS
    have hwx := (hb2.block _ l1).trans hw0
    have HBx := Lib.hid (HB0.out.trans (hb2.mono HB0.out.size))
    clear hw0 HB0 htx hqu har HIl HQl HMK hb2 f1 l1
    generalize w2 = wx at *
    have f1 := cells4L hwx
    have l1 := lt_of_blk hwx
    have HRx := Lib.hid (fun w' => rnext_any S 0 w' HSz.out (Nat.zero_le _))
    generalize hrr : tokR S 0 = rr at *
    have HX := Lib.hid hrr
    have HSx := Lib.hid hSs
    have hbs := HBx.out.size
    clear hrr hSs
    by_cases hok : okT 4 (sb t) n
    · have hbk := okT_back hok
      have hk0 := hok.1
      rw [HSx.out, HX.out] at hbk
      have HOK := Lib.hid hok
      have hki : (((4 : Int).toNat : Nat) : Int) = (4 : Int) := Int.toNat_of_nonneg hk0
      have hte : ((4 : Int) == (4 : Int) && decide (t.toList = t.toList) && n == n && (0 : Int) == 0) = true := by simp
      have hle : (mkB (writK 4 (sb t) n)).size = (writK 4 (sb t) n).length := mkB_size _
      rw [HSx.out] at hle
      rw [← hle] at hbk
      have hes := fun w => eq_tokR (4 : Int) (4 : Int) n n 0 0 t t w
      rw [hte] at hes
      clear hok hte hle hk0
      generalize (4 : Int).toNat = k' at *
      go_upto_region 31 with fail
      clear f1 l1
      have hHK := heap_setCell_same wx B 3 _ _ (.int .i64 0) hwx
      have HB2 := Lib.hid (HBx.out.setCell (p := ⟨B, 3, none⟩) hBB (.int .i64 0))
      generalize wx.setCell ⟨B, 3, none⟩ (.int .i64 0) = w2 at *
      have l2 := lt_of_blk hHK
      go_wp2_with fail
      refine (HRx.out w2).mono ?_
      rintro e w3 ⟨hb3, (⟨k3, t3, n3, q3, p3, tb, hr3, hq3, hp3, htb, rfl⟩ | ⟨n3, q3, hr3, _⟩)⟩
      case inr => rw [hbk] at hr3; cases hr3
      rw [hbk] at hr3
      simp only [Sum.inl.injEq, Prod.mk.injEq] at hr3
      obtain ⟨rfl, rfl, rfl, rfl, rfl⟩ := hr3
      have htt : tb = t := sb_inj htb
      subst htt
      have hw3 := (hb3.block _ l2).trans hHK
      have l3 := lt_of_blk hw3
      have HB3 := Lib.hid (HB2.out.trans (hb3.mono HB2.out.size))
      have hb4 : Below w3.heap.size w3 (w3.alloc (.cells #[.int .i64 (4 : Int), .string tb, .int .i64 n, .int .i64 0] 25)) := (Below.refl _ _).alloc (Nat.le_refl _) _
      have HB4 := Lib.hid (HB3.out.trans (hb4.mono HB3.out.size))
      have f3 := cells4L hw3
      have f4 := cells4L ((hb4.block _ l3).trans hw3)
      have f5 := cells4L (heap_alloc_new w3 (.cells #[.int .i64 (4 : Int), .string tb, .int .i64 n, .int .i64 0] 25))
      have l5 : w3.heap.size < (w3.alloc (.cells #[.int .i64 (4 : Int), .string tb, .int .i64 n, .int .i64 0] 25)).heap.size := lt_of_blk (heap_alloc_new w3 _)
      have l4 := Nat.lt_of_lt_of_le l3 hb4.size
      unfold tokV
      rw [hki]
      clear hki
      clear HRx HB2 HB3 hb3 hb4 hHK hw3 l2 htb hp3 hq3 HX
      go_wp2_with fail
      go_ret2
      exact ⟨HB4.out, .inl ⟨HOK.out, by rw [HSx.out]; rfl⟩⟩
    · have HOK := Lib.hid hok
      have HNo := Lib.hid (okT_iff 4 (sb t) n hok)
      rw [HSx.out, HX.out] at HNo
      have hte := HNo.out
      clear hok HNo
      have HNo := Lib.hid hte
      clear hte
      go_upto_region 31 with fail
      clear f1 l1
      have hHK := heap_setCell_same wx B 3 _ _ (.int .i64 0) hwx
      have HB2 := Lib.hid (HBx.out.setCell (p := ⟨B, 3, none⟩) hBB (.int .i64 0))
      generalize wx.setCell ⟨B, 3, none⟩ (.int .i64 0) = w2 at *
      have l2 := lt_of_blk hHK
      go_wp2_with fail
      refine (HRx.out w2).mono ?_
      rintro e w3 ⟨hb3, (⟨k3, t3, n3, q3, p3, tb, hr3, hq3, hp3, htb, rfl⟩ | ⟨n3, q3, hr3, hq3, rfl⟩)⟩
      · have hes := fun w => eq_tokR (k3 : Int) 4 n3 n (q3 : Int) 0 tb t w
        rw [tok_ne (HNo.out k3 t3 n3 q3 p3 hr3) htb] at hes
        have hw3 := (hb3.block _ l2).trans hHK
        have l3 := lt_of_blk hw3
        have HB3 := Lib.hid (HB2.out.trans (hb3.mono HB2.out.size))
        have hb4 : Below w3.heap.size w3 (w3.alloc (.cells #[.int .i64 (k3 : Int), .string tb, .int .i64 n3, .int .i64 (q3 : Int)] 25)) := (Below.refl _ _).alloc (Nat.le_refl _) _
        have HB4 := Lib.hid (HB3.out.trans (hb4.mono HB3.out.size))
        have f3 := cells4L hw3
        have f4 := cells4L ((hb4.block _ l3).trans hw3)
        have f5 := cells4L (heap_alloc_new w3 (.cells #[.int .i64 (k3 : Int), .string tb, .int .i64 n3, .int .i64 (q3 : Int)] 25))
        have l5 : w3.heap.size < (w3.alloc (.cells #[.int .i64 (k3 : Int), .string tb, .int .i64 n3, .int .i64 (q3 : Int)] 25)).heap.size := lt_of_blk (heap_alloc_new w3 _)
        have l4 := Nat.lt_of_lt_of_le l3 hb4.size
        unfold tokV
        clear HRx HB2 HB3 hb3 hb4 hHK hw3 l2 htb hp3 hq3 HX hr3 HNo
        go_wp2_with fail
        go_ret2
        exact ⟨HB4.out, .inr ⟨HOK.out, _, rfl⟩⟩
      · have hn3 := tokR_err (HX.out.trans hr3)
        have hnb : (n3 == 0) = false := by rw [beq_eq_false_iff_ne]; exact hn3
        have HB3 := Lib.hid ((HB2.out.trans (hb3.mono HB2.out.size)).alloc (HB2.out.trans (hb3.mono HB2.out.size)).size (.cells #[.int .i64 0, .string ⟨#[]⟩, .int .i64 0, .int .i64 0] 25))
        unfold tokV
        clear HRx HB2 hb3 hHK l2 hq3 HX hr3 HNo hn3
        go_wp2_with fail
        go_ret2
        exact ⟨HB3.out, .inr ⟨HOK.out, _, rfl⟩⟩
  · have hW : mkB (writK 5 (sb t) n) = if arityL t < 0 then mkB (35 :: quoL (sb t)) else mkB (35 :: sb t) := by
      show mkB (if arityL (mkB (sb t)) < 0 then 35 :: quoL (sb t) else 35 :: sb t) = _
      rw [HMK.out]
      split <;> rfl
    have htz : (t.size : Int) ≤ 1048576 := by omega
    obtain ⟨Q, hQ⟩ : ∃ Q : ByteArray, mkB (quoL (sb t)) = Q := ⟨_, rfl⟩
    rw [hQ] at HQl
    simp only [hQ] at hqu
    have HQ := Lib.hid hQ
    clear hQ
    have hqz : (Q.size : Int) ≤ 2097154 := by have := HQl.out; omega
    by_cases hneg : arityL t < 0
    · have HWn := Lib.hid (hW.trans (if_pos hneg))
      clear hW
      generalize arityL t = ar at *
      go_upto_region 30 with (first | (go_at_call 29; refine har.mono ?_; rintro e w' ⟨rfl, rfl⟩) | (go_at_call 28; refine (hqu _).mono ?_; rintro e w2 ⟨rfl, hb2⟩))
      obtain ⟨S, hS⟩ : ∃ S : ByteArray, (⟨#[35]⟩ : ByteArray) ++ Q = S := ⟨_, rfl⟩
      have hSz : S.size = 1 + Q.size := by rw [← hS, ByteArray.size_append]; rfl
      have HSz := Lib.hid (show S.size ≤ 16777216 by omega)
      have hSs : mkB (writK 5 (sb t) n) = S := by
        rw [HWn.out, ← hS, ← HQ.out]
        exact (app_oneL 35 (quoL (sb t))).symm
      rw [hS]
      clear hS hSz hqz HQ HWn hneg har htz
      have hwx := (hb2.block _ l1).trans hw0
      have HBx := Lib.hid (HB0.out.trans (hb2.mono HB0.out.size))
      clear hw0 HB0 htx hqu HIl HQl HMK hb2 f1 l1
      generalize w2 = wx at *
      have f1 := cells4L hwx
      have l1 := lt_of_blk hwx
      have HRx := Lib.hid (fun w' => rnext_any S 0 w' HSz.out (Nat.zero_le _))
      generalize hrr : tokR S 0 = rr at *
      have HX := Lib.hid hrr
      have HSx := Lib.hid hSs
      have hbs := HBx.out.size
      clear hrr hSs
      by_cases hok : okT 5 (sb t) n
      · have hbk := okT_back hok
        have hk0 := hok.1
        rw [HSx.out, HX.out] at hbk
        have HOK := Lib.hid hok
        have hki : (((5 : Int).toNat : Nat) : Int) = (5 : Int) := Int.toNat_of_nonneg hk0
        have hte : ((5 : Int) == (5 : Int) && decide (t.toList = t.toList) && n == n && (0 : Int) == 0) = true := by simp
        have hle : (mkB (writK 5 (sb t) n)).size = (writK 5 (sb t) n).length := mkB_size _
        rw [HSx.out] at hle
        rw [← hle] at hbk
        have hes := fun w => eq_tokR (5 : Int) (5 : Int) n n 0 0 t t w
        rw [hte] at hes
        clear hok hte hle hk0
        generalize (5 : Int).toNat = k' at *
        go_upto_region 31 with fail
        clear f1 l1
        have hHK := heap_setCell_same wx B 3 _ _ (.int .i64 0) hwx
        have HB2 := Lib.hid (HBx.out.setCell (p := ⟨B, 3, none⟩) hBB (.int .i64 0))
        generalize wx.setCell ⟨B, 3, none⟩ (.int .i64 0) = w2 at *
        have l2 := lt_of_blk hHK
        go_wp2_with fail
        refine (HRx.out w2).mono ?_
        rintro e w3 ⟨hb3, (⟨k3, t3, n3, q3, p3, tb, hr3, hq3, hp3, htb, rfl⟩ | ⟨n3, q3, hr3, _⟩)⟩
        case inr => rw [hbk] at hr3; cases hr3
        rw [hbk] at hr3
        simp only [Sum.inl.injEq, Prod.mk.injEq] at hr3
        obtain ⟨rfl, rfl, rfl, rfl, rfl⟩ := hr3
        have htt : tb = t := sb_inj htb
        subst htt
        have hw3 := (hb3.block _ l2).trans hHK
        have l3 := lt_of_blk hw3
        have HB3 := Lib.hid (HB2.out.trans (hb3.mono HB2.out.size))
        have hb4 : Below w3.heap.size w3 (w3.alloc (.cells #[.int .i64 (5 : Int), .string tb, .int .i64 n, .int .i64 0] 25)) := (Below.refl _ _).alloc (Nat.le_refl _) _
        have HB4 := Lib.hid (HB3.out.trans (hb4.mono HB3.out.size))
        have f3 := cells4L hw3
        have f4 := cells4L ((hb4.block _ l3).trans hw3)
        have f5 := cells4L (heap_alloc_new w3 (.cells #[.int .i64 (5 : Int), .string tb, .int .i64 n, .int .i64 0] 25))
        have l5 : w3.heap.size < (w3.alloc (.cells #[.int .i64 (5 : Int), .string tb, .int .i64 n, .int .i64 0] 25)).heap.size := lt_of_blk (heap_alloc_new w3 _)
        have l4 := Nat.lt_of_lt_of_le l3 hb4.size
        unfold tokV
        rw [hki]
        clear hki
        clear HRx HB2 HB3 hb3 hb4 hHK hw3 l2 htb hp3 hq3 HX
        go_wp2_with fail
        go_ret2
        exact ⟨HB4.out, .inl ⟨HOK.out, by rw [HSx.out]; rfl⟩⟩
      · have HOK := Lib.hid hok
        have HNo := Lib.hid (okT_iff 5 (sb t) n hok)
        rw [HSx.out, HX.out] at HNo
        have hte := HNo.out
        clear hok HNo
        have HNo := Lib.hid hte
        clear hte
        go_upto_region 31 with fail
        clear f1 l1
        have hHK := heap_setCell_same wx B 3 _ _ (.int .i64 0) hwx
        have HB2 := Lib.hid (HBx.out.setCell (p := ⟨B, 3, none⟩) hBB (.int .i64 0))
        generalize wx.setCell ⟨B, 3, none⟩ (.int .i64 0) = w2 at *
        have l2 := lt_of_blk hHK
        go_wp2_with fail
        refine (HRx.out w2).mono ?_
        rintro e w3 ⟨hb3, (⟨k3, t3, n3, q3, p3, tb, hr3, hq3, hp3, htb, rfl⟩ | ⟨n3, q3, hr3, hq3, rfl⟩)⟩
        · have hes := fun w => eq_tokR (k3 : Int) 5 n3 n (q3 : Int) 0 tb t w
          rw [tok_ne (HNo.out k3 t3 n3 q3 p3 hr3) htb] at hes
          have hw3 := (hb3.block _ l2).trans hHK
          have l3 := lt_of_blk hw3
          have HB3 := Lib.hid (HB2.out.trans (hb3.mono HB2.out.size))
          have hb4 : Below w3.heap.size w3 (w3.alloc (.cells #[.int .i64 (k3 : Int), .string tb, .int .i64 n3, .int .i64 (q3 : Int)] 25)) := (Below.refl _ _).alloc (Nat.le_refl _) _
          have HB4 := Lib.hid (HB3.out.trans (hb4.mono HB3.out.size))
          have f3 := cells4L hw3
          have f4 := cells4L ((hb4.block _ l3).trans hw3)
          have f5 := cells4L (heap_alloc_new w3 (.cells #[.int .i64 (k3 : Int), .string tb, .int .i64 n3, .int .i64 (q3 : Int)] 25))
          have l5 : w3.heap.size < (w3.alloc (.cells #[.int .i64 (k3 : Int), .string tb, .int .i64 n3, .int .i64 (q3 : Int)] 25)).heap.size := lt_of_blk (heap_alloc_new w3 _)
          have l4 := Nat.lt_of_lt_of_le l3 hb4.size
          unfold tokV
          clear HRx HB2 HB3 hb3 hb4 hHK hw3 l2 htb hp3 hq3 HX hr3 HNo
          go_wp2_with fail
          go_ret2
          exact ⟨HB4.out, .inr ⟨HOK.out, _, rfl⟩⟩
        · have hn3 := tokR_err (HX.out.trans hr3)
          have hnb : (n3 == 0) = false := by rw [beq_eq_false_iff_ne]; exact hn3
          have HB3 := Lib.hid ((HB2.out.trans (hb3.mono HB2.out.size)).alloc (HB2.out.trans (hb3.mono HB2.out.size)).size (.cells #[.int .i64 0, .string ⟨#[]⟩, .int .i64 0, .int .i64 0] 25))
          unfold tokV
          clear HRx HB2 hb3 hHK l2 hq3 HX hr3 HNo hn3
          go_wp2_with fail
          go_ret2
          exact ⟨HB3.out, .inr ⟨HOK.out, _, rfl⟩⟩
    · have HWn := Lib.hid (hW.trans (if_neg hneg))
      clear hW
      generalize arityL t = ar at *
      go_upto_region 30 with (first | (go_at_call 29; refine har.mono ?_; rintro e w' ⟨rfl, rfl⟩))
      obtain ⟨S, hS⟩ : ∃ S : ByteArray, (⟨#[35]⟩ : ByteArray) ++ t = S := ⟨_, rfl⟩
      have hSz : S.size = 1 + t.size := by rw [← hS, ByteArray.size_append]; rfl
      have HSz := Lib.hid (show S.size ≤ 16777216 by omega)
      have hSs : mkB (writK 5 (sb t) n) = S := by
        rw [HWn.out, ← hS]
        conv => rhs; rw [← mk_sb t]
        exact (app_oneL 35 (sb t)).symm
      rw [hS]
      clear hS hSz hqz HQ HWn hneg har htz
      have hwx := hw0
      have HBx := HB0
      clear hw0 HB0 htx hqu HIl HQl HMK
      generalize w1 = wx at *
      have HRx := Lib.hid (fun w' => rnext_any S 0 w' HSz.out (Nat.zero_le _))
      generalize hrr : tokR S 0 = rr at *
      have HX := Lib.hid hrr
      have HSx := Lib.hid hSs
      have hbs := HBx.out.size
      clear hrr hSs
      by_cases hok : okT 5 (sb t) n
      · have hbk := okT_back hok
        have hk0 := hok.1
        rw [HSx.out, HX.out] at hbk
        have HOK := Lib.hid hok
        have hki : (((5 : Int).toNat : Nat) : Int) = (5 : Int) := Int.toNat_of_nonneg hk0
        have hte : ((5 : Int) == (5 : Int) && decide (t.toList = t.toList) && n == n && (0 : Int) == 0) = true := by simp
        have hle : (mkB (writK 5 (sb t) n)).size = (writK 5 (sb t) n).length := mkB_size _
        rw [HSx.out] at hle
        rw [← hle] at hbk
        have hes := fun w => eq_tokR (5 : Int) (5 : Int) n n 0 0 t t w
        rw [hte] at hes
        clear hok hte hle hk0
        generalize (5 : Int).toNat = k' at *
        go_upto_region 31 with fail
        clear f1 l1
        have hHK := heap_setCell_same wx B 3 _ _ (.int .i64 0) hwx
        have HB2 := Lib.hid (HBx.out.setCell (p := ⟨B, 3, none⟩) hBB (.int .i64 0))
        generalize wx.setCell ⟨B, 3, none⟩ (.int .i64 0) = w2 at *
        have l2 := lt_of_blk hHK
        go_wp2_with fail
        refine (HRx.out w2).mono ?_
        rintro e w3 ⟨hb3, (⟨k3, t3, n3, q3, p3, tb, hr3, hq3, hp3, htb, rfl⟩ | ⟨n3, q3, hr3, _⟩)⟩
        case inr => rw [hbk] at hr3; cases hr3
        rw [hbk] at hr3
        simp only [Sum.inl.injEq, Prod.mk.injEq] at hr3
        obtain ⟨rfl, rfl, rfl, rfl, rfl⟩ := hr3
        have htt : tb = t := sb_inj htb
        subst htt
        have hw3 := (hb3.block _ l2).trans hHK
        have l3 := lt_of_blk hw3
        have HB3 := Lib.hid (HB2.out.trans (hb3.mono HB2.out.size))
        have hb4 : Below w3.heap.size w3 (w3.alloc (.cells #[.int .i64 (5 : Int), .string tb, .int .i64 n, .int .i64 0] 25)) := (Below.refl _ _).alloc (Nat.le_refl _) _
        have HB4 := Lib.hid (HB3.out.trans (hb4.mono HB3.out.size))
        have f3 := cells4L hw3
        have f4 := cells4L ((hb4.block _ l3).trans hw3)
        have f5 := cells4L (heap_alloc_new w3 (.cells #[.int .i64 (5 : Int), .string tb, .int .i64 n, .int .i64 0] 25))
        have l5 : w3.heap.size < (w3.alloc (.cells #[.int .i64 (5 : Int), .string tb, .int .i64 n, .int .i64 0] 25)).heap.size := lt_of_blk (heap_alloc_new w3 _)
        have l4 := Nat.lt_of_lt_of_le l3 hb4.size
        unfold tokV
        rw [hki]
        clear hki
        clear HRx HB2 HB3 hb3 hb4 hHK hw3 l2 htb hp3 hq3 HX
        go_wp2_with fail
        go_ret2
        exact ⟨HB4.out, .inl ⟨HOK.out, by rw [HSx.out]; rfl⟩⟩
      · have HOK := Lib.hid hok
        have HNo := Lib.hid (okT_iff 5 (sb t) n hok)
        rw [HSx.out, HX.out] at HNo
        have hte := HNo.out
        clear hok HNo
        have HNo := Lib.hid hte
        clear hte
        go_upto_region 31 with fail
        clear f1 l1
        have hHK := heap_setCell_same wx B 3 _ _ (.int .i64 0) hwx
        have HB2 := Lib.hid (HBx.out.setCell (p := ⟨B, 3, none⟩) hBB (.int .i64 0))
        generalize wx.setCell ⟨B, 3, none⟩ (.int .i64 0) = w2 at *
        have l2 := lt_of_blk hHK
        go_wp2_with fail
        refine (HRx.out w2).mono ?_
        rintro e w3 ⟨hb3, (⟨k3, t3, n3, q3, p3, tb, hr3, hq3, hp3, htb, rfl⟩ | ⟨n3, q3, hr3, hq3, rfl⟩)⟩
        · have hes := fun w => eq_tokR (k3 : Int) 5 n3 n (q3 : Int) 0 tb t w
          rw [tok_ne (HNo.out k3 t3 n3 q3 p3 hr3) htb] at hes
          have hw3 := (hb3.block _ l2).trans hHK
          have l3 := lt_of_blk hw3
          have HB3 := Lib.hid (HB2.out.trans (hb3.mono HB2.out.size))
          have hb4 : Below w3.heap.size w3 (w3.alloc (.cells #[.int .i64 (k3 : Int), .string tb, .int .i64 n3, .int .i64 (q3 : Int)] 25)) := (Below.refl _ _).alloc (Nat.le_refl _) _
          have HB4 := Lib.hid (HB3.out.trans (hb4.mono HB3.out.size))
          have f3 := cells4L hw3
          have f4 := cells4L ((hb4.block _ l3).trans hw3)
          have f5 := cells4L (heap_alloc_new w3 (.cells #[.int .i64 (k3 : Int), .string tb, .int .i64 n3, .int .i64 (q3 : Int)] 25))
          have l5 : w3.heap.size < (w3.alloc (.cells #[.int .i64 (k3 : Int), .string tb, .int .i64 n3, .int .i64 (q3 : Int)] 25)).heap.size := lt_of_blk (heap_alloc_new w3 _)
          have l4 := Nat.lt_of_lt_of_le l3 hb4.size
          unfold tokV
          clear HRx HB2 HB3 hb3 hb4 hHK hw3 l2 htb hp3 hq3 HX hr3 HNo
          go_wp2_with fail
          go_ret2
          exact ⟨HB4.out, .inr ⟨HOK.out, _, rfl⟩⟩
        · have hn3 := tokR_err (HX.out.trans hr3)
          have hnb : (n3 == 0) = false := by rw [beq_eq_false_iff_ne]; exact hn3
          have HB3 := Lib.hid ((HB2.out.trans (hb3.mono HB2.out.size)).alloc (HB2.out.trans (hb3.mono HB2.out.size)).size (.cells #[.int .i64 0, .string ⟨#[]⟩, .int .i64 0, .int .i64 0] 25))
          unfold tokV
          clear HRx HB2 hb3 hHK l2 hq3 HX hr3 HNo hn3
          go_wp2_with fail
          go_ret2
          exact ⟨HB3.out, .inr ⟨HOK.out, _, rfl⟩⟩
  · have hSs : mkB (writK 6 (sb t) n) = t := HMK.out
    have HSz := Lib.hid (show t.size ≤ 16777216 by omega)
    go_upto_region 30 with fail
    have hwx := hw0
    have HBx := HB0
    clear hw0 HB0 htx hqu har HIl HQl HMK
    generalize w1 = wx at *
    have HRx := Lib.hid (fun w' => rnext_any t 0 w' HSz.out (Nat.zero_le _))
    generalize hrr : tokR t 0 = rr at *
    have HX := Lib.hid hrr
    have HSx := Lib.hid hSs
    have hbs := HBx.out.size
    clear hrr hSs
    by_cases hok : okT 6 (sb t) n
    · have hbk := okT_back hok
      have hk0 := hok.1
      rw [HSx.out, HX.out] at hbk
      have HOK := Lib.hid hok
      have hki : (((6 : Int).toNat : Nat) : Int) = (6 : Int) := Int.toNat_of_nonneg hk0
      have hte : ((6 : Int) == (6 : Int) && decide (t.toList = t.toList) && n == n && (0 : Int) == 0) = true := by simp
      have hle : (mkB (writK 6 (sb t) n)).size = (writK 6 (sb t) n).length := mkB_size _
      rw [HSx.out] at hle
      rw [← hle] at hbk
      have hes := fun w => eq_tokR (6 : Int) (6 : Int) n n 0 0 t t w
      rw [hte] at hes
      clear hok hte hle hk0
      generalize (6 : Int).toNat = k' at *
      go_upto_region 31 with fail
      clear f1 l1
      have hHK := heap_setCell_same wx B 3 _ _ (.int .i64 0) hwx
      have HB2 := Lib.hid (HBx.out.setCell (p := ⟨B, 3, none⟩) hBB (.int .i64 0))
      generalize wx.setCell ⟨B, 3, none⟩ (.int .i64 0) = w2 at *
      have l2 := lt_of_blk hHK
      go_wp2_with fail
      refine (HRx.out w2).mono ?_
      rintro e w3 ⟨hb3, (⟨k3, t3, n3, q3, p3, tb, hr3, hq3, hp3, htb, rfl⟩ | ⟨n3, q3, hr3, _⟩)⟩
      case inr => rw [hbk] at hr3; cases hr3
      rw [hbk] at hr3
      simp only [Sum.inl.injEq, Prod.mk.injEq] at hr3
      obtain ⟨rfl, rfl, rfl, rfl, rfl⟩ := hr3
      have htt : tb = t := sb_inj htb
      subst htt
      have hw3 := (hb3.block _ l2).trans hHK
      have l3 := lt_of_blk hw3
      have HB3 := Lib.hid (HB2.out.trans (hb3.mono HB2.out.size))
      have hb4 : Below w3.heap.size w3 (w3.alloc (.cells #[.int .i64 (6 : Int), .string tb, .int .i64 n, .int .i64 0] 25)) := (Below.refl _ _).alloc (Nat.le_refl _) _
      have HB4 := Lib.hid (HB3.out.trans (hb4.mono HB3.out.size))
      have f3 := cells4L hw3
      have f4 := cells4L ((hb4.block _ l3).trans hw3)
      have f5 := cells4L (heap_alloc_new w3 (.cells #[.int .i64 (6 : Int), .string tb, .int .i64 n, .int .i64 0] 25))
      have l5 : w3.heap.size < (w3.alloc (.cells #[.int .i64 (6 : Int), .string tb, .int .i64 n, .int .i64 0] 25)).heap.size := lt_of_blk (heap_alloc_new w3 _)
      have l4 := Nat.lt_of_lt_of_le l3 hb4.size
      unfold tokV
      rw [hki]
      clear hki
      clear HRx HB2 HB3 hb3 hb4 hHK hw3 l2 htb hp3 hq3 HX
      go_wp2_with fail
      go_ret2
      exact ⟨HB4.out, .inl ⟨HOK.out, by rw [HSx.out]; rfl⟩⟩
    · have HOK := Lib.hid hok
      have HNo := Lib.hid (okT_iff 6 (sb t) n hok)
      rw [HSx.out, HX.out] at HNo
      have hte := HNo.out
      clear hok HNo
      have HNo := Lib.hid hte
      clear hte
      go_upto_region 31 with fail
      clear f1 l1
      have hHK := heap_setCell_same wx B 3 _ _ (.int .i64 0) hwx
      have HB2 := Lib.hid (HBx.out.setCell (p := ⟨B, 3, none⟩) hBB (.int .i64 0))
      generalize wx.setCell ⟨B, 3, none⟩ (.int .i64 0) = w2 at *
      have l2 := lt_of_blk hHK
      go_wp2_with fail
      refine (HRx.out w2).mono ?_
      rintro e w3 ⟨hb3, (⟨k3, t3, n3, q3, p3, tb, hr3, hq3, hp3, htb, rfl⟩ | ⟨n3, q3, hr3, hq3, rfl⟩)⟩
      · have hes := fun w => eq_tokR (k3 : Int) 6 n3 n (q3 : Int) 0 tb t w
        rw [tok_ne (HNo.out k3 t3 n3 q3 p3 hr3) htb] at hes
        have hw3 := (hb3.block _ l2).trans hHK
        have l3 := lt_of_blk hw3
        have HB3 := Lib.hid (HB2.out.trans (hb3.mono HB2.out.size))
        have hb4 : Below w3.heap.size w3 (w3.alloc (.cells #[.int .i64 (k3 : Int), .string tb, .int .i64 n3, .int .i64 (q3 : Int)] 25)) := (Below.refl _ _).alloc (Nat.le_refl _) _
        have HB4 := Lib.hid (HB3.out.trans (hb4.mono HB3.out.size))
        have f3 := cells4L hw3
        have f4 := cells4L ((hb4.block _ l3).trans hw3)
        have f5 := cells4L (heap_alloc_new w3 (.cells #[.int .i64 (k3 : Int), .string tb, .int .i64 n3, .int .i64 (q3 : Int)] 25))
        have l5 : w3.heap.size < (w3.alloc (.cells #[.int .i64 (k3 : Int), .string tb, .int .i64 n3, .int .i64 (q3 : Int)] 25)).heap.size := lt_of_blk (heap_alloc_new w3 _)
        have l4 := Nat.lt_of_lt_of_le l3 hb4.size
        unfold tokV
        clear HRx HB2 HB3 hb3 hb4 hHK hw3 l2 htb hp3 hq3 HX hr3 HNo
        go_wp2_with fail
        go_ret2
        exact ⟨HB4.out, .inr ⟨HOK.out, _, rfl⟩⟩
      · have hn3 := tokR_err (HX.out.trans hr3)
        have hnb : (n3 == 0) = false := by rw [beq_eq_false_iff_ne]; exact hn3
        have HB3 := Lib.hid ((HB2.out.trans (hb3.mono HB2.out.size)).alloc (HB2.out.trans (hb3.mono HB2.out.size)).size (.cells #[.int .i64 0, .string ⟨#[]⟩, .int .i64 0, .int .i64 0] 25))
        unfold tokV
        clear HRx HB2 hb3 hHK l2 hq3 HX hr3 HNo hn3
        go_wp2_with fail
        go_ret2
        exact ⟨HB3.out, .inr ⟨HOK.out, _, rfl⟩⟩
  · have hS0 : mkB (writK 7 (sb t) n) = ⟨#[58, 61]⟩ := rfl
    go_upto_region 30 with fail
    obtain ⟨S, hS⟩ : ∃ S : ByteArray, (⟨#[58, 61]⟩ : ByteArray) = S := ⟨_, rfl⟩
    have HSz := Lib.hid (show S.size ≤ 16777216 by rw [← hS]; decide)
    have hSs := hS0.trans hS
    rw [hS]
    clear hS0 hS
    have hwx := hw0
    have HBx := HB0
    clear hw0 HB0 htx hqu har HIl HQl HMK
    generalize w1 = wx at *
    have HRx := Lib.hid (fun w' => rnext_any S 0 w' HSz.out (Nat.zero_le _))
    generalize hrr : tokR S 0 = rr at *
    have HX := Lib.hid hrr
    have HSx := Lib.hid hSs
    have hbs := HBx.out.size
    clear hrr hSs
    by_cases hok : okT 7 (sb t) n
    · have hbk := okT_back hok
      have hk0 := hok.1
      rw [HSx.out, HX.out] at hbk
      have HOK := Lib.hid hok
      have hki : (((7 : Int).toNat : Nat) : Int) = (7 : Int) := Int.toNat_of_nonneg hk0
      have hte : ((7 : Int) == (7 : Int) && decide (t.toList = t.toList) && n == n && (0 : Int) == 0) = true := by simp
      have hle : (mkB (writK 7 (sb t) n)).size = (writK 7 (sb t) n).length := mkB_size _
      rw [HSx.out] at hle
      rw [← hle] at hbk
      have hes := fun w => eq_tokR (7 : Int) (7 : Int) n n 0 0 t t w
      rw [hte] at hes
      clear hok hte hle hk0
      generalize (7 : Int).toNat = k' at *
      go_upto_region 31 with fail
      clear f1 l1
      have hHK := heap_setCell_same wx B 3 _ _ (.int .i64 0) hwx
      have HB2 := Lib.hid (HBx.out.setCell (p := ⟨B, 3, none⟩) hBB (.int .i64 0))
      generalize wx.setCell ⟨B, 3, none⟩ (.int .i64 0) = w2 at *
      have l2 := lt_of_blk hHK
      go_wp2_with fail
      refine (HRx.out w2).mono ?_
      rintro e w3 ⟨hb3, (⟨k3, t3, n3, q3, p3, tb, hr3, hq3, hp3, htb, rfl⟩ | ⟨n3, q3, hr3, _⟩)⟩
      case inr => rw [hbk] at hr3; cases hr3
      rw [hbk] at hr3
      simp only [Sum.inl.injEq, Prod.mk.injEq] at hr3
      obtain ⟨rfl, rfl, rfl, rfl, rfl⟩ := hr3
      have htt : tb = t := sb_inj htb
      subst htt
      have hw3 := (hb3.block _ l2).trans hHK
      have l3 := lt_of_blk hw3
      have HB3 := Lib.hid (HB2.out.trans (hb3.mono HB2.out.size))
      have hb4 : Below w3.heap.size w3 (w3.alloc (.cells #[.int .i64 (7 : Int), .string tb, .int .i64 n, .int .i64 0] 25)) := (Below.refl _ _).alloc (Nat.le_refl _) _
      have HB4 := Lib.hid (HB3.out.trans (hb4.mono HB3.out.size))
      have f3 := cells4L hw3
      have f4 := cells4L ((hb4.block _ l3).trans hw3)
      have f5 := cells4L (heap_alloc_new w3 (.cells #[.int .i64 (7 : Int), .string tb, .int .i64 n, .int .i64 0] 25))
      have l5 : w3.heap.size < (w3.alloc (.cells #[.int .i64 (7 : Int), .string tb, .int .i64 n, .int .i64 0] 25)).heap.size := lt_of_blk (heap_alloc_new w3 _)
      have l4 := Nat.lt_of_lt_of_le l3 hb4.size
      unfold tokV
      rw [hki]
      clear hki
      clear HRx HB2 HB3 hb3 hb4 hHK hw3 l2 htb hp3 hq3 HX
      go_wp2_with fail
      go_ret2
      exact ⟨HB4.out, .inl ⟨HOK.out, by rw [HSx.out]; rfl⟩⟩
    · have HOK := Lib.hid hok
      have HNo := Lib.hid (okT_iff 7 (sb t) n hok)
      rw [HSx.out, HX.out] at HNo
      have hte := HNo.out
      clear hok HNo
      have HNo := Lib.hid hte
      clear hte
      go_upto_region 31 with fail
      clear f1 l1
      have hHK := heap_setCell_same wx B 3 _ _ (.int .i64 0) hwx
      have HB2 := Lib.hid (HBx.out.setCell (p := ⟨B, 3, none⟩) hBB (.int .i64 0))
      generalize wx.setCell ⟨B, 3, none⟩ (.int .i64 0) = w2 at *
      have l2 := lt_of_blk hHK
      go_wp2_with fail
      refine (HRx.out w2).mono ?_
      rintro e w3 ⟨hb3, (⟨k3, t3, n3, q3, p3, tb, hr3, hq3, hp3, htb, rfl⟩ | ⟨n3, q3, hr3, hq3, rfl⟩)⟩
      · have hes := fun w => eq_tokR (k3 : Int) 7 n3 n (q3 : Int) 0 tb t w
        rw [tok_ne (HNo.out k3 t3 n3 q3 p3 hr3) htb] at hes
        have hw3 := (hb3.block _ l2).trans hHK
        have l3 := lt_of_blk hw3
        have HB3 := Lib.hid (HB2.out.trans (hb3.mono HB2.out.size))
        have hb4 : Below w3.heap.size w3 (w3.alloc (.cells #[.int .i64 (k3 : Int), .string tb, .int .i64 n3, .int .i64 (q3 : Int)] 25)) := (Below.refl _ _).alloc (Nat.le_refl _) _
        have HB4 := Lib.hid (HB3.out.trans (hb4.mono HB3.out.size))
        have f3 := cells4L hw3
        have f4 := cells4L ((hb4.block _ l3).trans hw3)
        have f5 := cells4L (heap_alloc_new w3 (.cells #[.int .i64 (k3 : Int), .string tb, .int .i64 n3, .int .i64 (q3 : Int)] 25))
        have l5 : w3.heap.size < (w3.alloc (.cells #[.int .i64 (k3 : Int), .string tb, .int .i64 n3, .int .i64 (q3 : Int)] 25)).heap.size := lt_of_blk (heap_alloc_new w3 _)
        have l4 := Nat.lt_of_lt_of_le l3 hb4.size
        unfold tokV
        clear HRx HB2 HB3 hb3 hb4 hHK hw3 l2 htb hp3 hq3 HX hr3 HNo
        go_wp2_with fail
        go_ret2
        exact ⟨HB4.out, .inr ⟨HOK.out, _, rfl⟩⟩
      · have hn3 := tokR_err (HX.out.trans hr3)
        have hnb : (n3 == 0) = false := by rw [beq_eq_false_iff_ne]; exact hn3
        have HB3 := Lib.hid ((HB2.out.trans (hb3.mono HB2.out.size)).alloc (HB2.out.trans (hb3.mono HB2.out.size)).size (.cells #[.int .i64 0, .string ⟨#[]⟩, .int .i64 0, .int .i64 0] 25))
        unfold tokV
        clear HRx HB2 hb3 hHK l2 hq3 HX hr3 HNo hn3
        go_wp2_with fail
        go_ret2
        exact ⟨HB3.out, .inr ⟨HOK.out, _, rfl⟩⟩
  · have hS0 : mkB (writK 8 (sb t) n) = (⟨#[94, 46, 59, 40, 41, 91, 93]⟩ : ByteArray).extract 0 1 := by
      show (⟨#[94]⟩ : ByteArray) = _
      decide +kernel
    go_upto_region 30 with fail
    obtain ⟨S, hS⟩ : ∃ S : ByteArray, (⟨#[94, 46, 59, 40, 41, 91, 93]⟩ : ByteArray).extract 0 1 = S := ⟨_, rfl⟩
    have HSz := Lib.hid (show S.size ≤ 16777216 by rw [← hS]; decide +kernel)
    have hSs := hS0.trans hS
    rw [hS]
    clear hS0 hS
    have hwx := hw0
    have HBx := HB0
    clear hw0 HB0 htx hqu har HIl HQl HMK
    generalize w1 = wx at *
    have HRx := Lib.hid (fun w' => rnext_any S 0 w' HSz.out (Nat.zero_le _))
    generalize hrr : tokR S 0 = rr at *
    have HX := Lib.hid hrr
    have HSx := Lib.hid hSs
    have hbs := HBx.out.size
    clear hrr hSs
    by_cases hok : okT 8 (sb t) n
    · have hbk := okT_back hok
      have hk0 := hok.1
      rw [HSx.out, HX.out] at hbk
      have HOK := Lib.hid hok
      have hki : (((8 : Int).toNat : Nat) : Int) = (8 : Int) := Int.toNat_of_nonneg hk0
      have hte : ((8 : Int) == (8 : Int) && decide (t.toList = t.toList) && n == n && (0 : Int) == 0) = true := by simp
      have hle : (mkB (writK 8 (sb t) n)).size = (writK 8 (sb t) n).length := mkB_size _
      rw [HSx.out] at hle
      rw [← hle] at hbk
      have hes := fun w => eq_tokR (8 : Int) (8 : Int) n n 0 0 t t w
      rw [hte] at hes
      clear hok hte hle hk0
      generalize (8 : Int).toNat = k' at *
      go_upto_region 31 with fail
      clear f1 l1
      have hHK := heap_setCell_same wx B 3 _ _ (.int .i64 0) hwx
      have HB2 := Lib.hid (HBx.out.setCell (p := ⟨B, 3, none⟩) hBB (.int .i64 0))
      generalize wx.setCell ⟨B, 3, none⟩ (.int .i64 0) = w2 at *
      have l2 := lt_of_blk hHK
      go_wp2_with fail
      refine (HRx.out w2).mono ?_
      rintro e w3 ⟨hb3, (⟨k3, t3, n3, q3, p3, tb, hr3, hq3, hp3, htb, rfl⟩ | ⟨n3, q3, hr3, _⟩)⟩
      case inr => rw [hbk] at hr3; cases hr3
      rw [hbk] at hr3
      simp only [Sum.inl.injEq, Prod.mk.injEq] at hr3
      obtain ⟨rfl, rfl, rfl, rfl, rfl⟩ := hr3
      have htt : tb = t := sb_inj htb
      subst htt
      have hw3 := (hb3.block _ l2).trans hHK
      have l3 := lt_of_blk hw3
      have HB3 := Lib.hid (HB2.out.trans (hb3.mono HB2.out.size))
      have hb4 : Below w3.heap.size w3 (w3.alloc (.cells #[.int .i64 (8 : Int), .string tb, .int .i64 n, .int .i64 0] 25)) := (Below.refl _ _).alloc (Nat.le_refl _) _
      have HB4 := Lib.hid (HB3.out.trans (hb4.mono HB3.out.size))
      have f3 := cells4L hw3
      have f4 := cells4L ((hb4.block _ l3).trans hw3)
      have f5 := cells4L (heap_alloc_new w3 (.cells #[.int .i64 (8 : Int), .string tb, .int .i64 n, .int .i64 0] 25))
      have l5 : w3.heap.size < (w3.alloc (.cells #[.int .i64 (8 : Int), .string tb, .int .i64 n, .int .i64 0] 25)).heap.size := lt_of_blk (heap_alloc_new w3 _)
      have l4 := Nat.lt_of_lt_of_le l3 hb4.size
      unfold tokV
      rw [hki]
      clear hki
      clear HRx HB2 HB3 hb3 hb4 hHK hw3 l2 htb hp3 hq3 HX
      go_wp2_with fail
      go_ret2
      exact ⟨HB4.out, .inl ⟨HOK.out, by rw [HSx.out]; rfl⟩⟩
    · have HOK := Lib.hid hok
      have HNo := Lib.hid (okT_iff 8 (sb t) n hok)
      rw [HSx.out, HX.out] at HNo
      have hte := HNo.out
      clear hok HNo
      have HNo := Lib.hid hte
      clear hte
      go_upto_region 31 with fail
      clear f1 l1
      have hHK := heap_setCell_same wx B 3 _ _ (.int .i64 0) hwx
      have HB2 := Lib.hid (HBx.out.setCell (p := ⟨B, 3, none⟩) hBB (.int .i64 0))
      generalize wx.setCell ⟨B, 3, none⟩ (.int .i64 0) = w2 at *
      have l2 := lt_of_blk hHK
      go_wp2_with fail
      refine (HRx.out w2).mono ?_
      rintro e w3 ⟨hb3, (⟨k3, t3, n3, q3, p3, tb, hr3, hq3, hp3, htb, rfl⟩ | ⟨n3, q3, hr3, hq3, rfl⟩)⟩
      · have hes := fun w => eq_tokR (k3 : Int) 8 n3 n (q3 : Int) 0 tb t w
        rw [tok_ne (HNo.out k3 t3 n3 q3 p3 hr3) htb] at hes
        have hw3 := (hb3.block _ l2).trans hHK
        have l3 := lt_of_blk hw3
        have HB3 := Lib.hid (HB2.out.trans (hb3.mono HB2.out.size))
        have hb4 : Below w3.heap.size w3 (w3.alloc (.cells #[.int .i64 (k3 : Int), .string tb, .int .i64 n3, .int .i64 (q3 : Int)] 25)) := (Below.refl _ _).alloc (Nat.le_refl _) _
        have HB4 := Lib.hid (HB3.out.trans (hb4.mono HB3.out.size))
        have f3 := cells4L hw3
        have f4 := cells4L ((hb4.block _ l3).trans hw3)
        have f5 := cells4L (heap_alloc_new w3 (.cells #[.int .i64 (k3 : Int), .string tb, .int .i64 n3, .int .i64 (q3 : Int)] 25))
        have l5 : w3.heap.size < (w3.alloc (.cells #[.int .i64 (k3 : Int), .string tb, .int .i64 n3, .int .i64 (q3 : Int)] 25)).heap.size := lt_of_blk (heap_alloc_new w3 _)
        have l4 := Nat.lt_of_lt_of_le l3 hb4.size
        unfold tokV
        clear HRx HB2 HB3 hb3 hb4 hHK hw3 l2 htb hp3 hq3 HX hr3 HNo
        go_wp2_with fail
        go_ret2
        exact ⟨HB4.out, .inr ⟨HOK.out, _, rfl⟩⟩
      · have hn3 := tokR_err (HX.out.trans hr3)
        have hnb : (n3 == 0) = false := by rw [beq_eq_false_iff_ne]; exact hn3
        have HB3 := Lib.hid ((HB2.out.trans (hb3.mono HB2.out.size)).alloc (HB2.out.trans (hb3.mono HB2.out.size)).size (.cells #[.int .i64 0, .string ⟨#[]⟩, .int .i64 0, .int .i64 0] 25))
        unfold tokV
        clear HRx HB2 hb3 hHK l2 hq3 HX hr3 HNo hn3
        go_wp2_with fail
        go_ret2
        exact ⟨HB3.out, .inr ⟨HOK.out, _, rfl⟩⟩
  · have hS0 : mkB (writK 9 (sb t) n) = (⟨#[94, 46, 59, 40, 41, 91, 93]⟩ : ByteArray).extract 1 2 := by
      show (⟨#[46]⟩ : ByteArray) = _
      decide +kernel
    go_upto_region 30 with fail
    obtain ⟨S, hS⟩ : ∃ S : ByteArray, (⟨#[94, 46, 59, 40, 41, 91, 93]⟩ : ByteArray).extract 1 2 = S := ⟨_, rfl⟩
    have HSz := Lib.hid (show S.size ≤ 16777216 by rw [← hS]; decide +kernel)
    have hSs := hS0.trans hS
    rw [hS]
    clear hS0 hS
    have hwx := hw0
    have HBx := HB0
    clear hw0 HB0 htx hqu har HIl HQl HMK
    generalize w1 = wx at *
    have HRx := Lib.hid (fun w' => rnext_any S 0 w' HSz.out (Nat.zero_le _))
    generalize hrr : tokR S 0 = rr at *
    have HX := Lib.hid hrr
    have HSx := Lib.hid hSs
    have hbs := HBx.out.size
    clear hrr hSs
    by_cases hok : okT 9 (sb t) n
    · have hbk := okT_back hok
      have hk0 := hok.1
      rw [HSx.out, HX.out] at hbk
      have HOK := Lib.hid hok
      have hki : (((9 : Int).toNat : Nat) : Int) = (9 : Int) := Int.toNat_of_nonneg hk0
      have hte : ((9 : Int) == (9 : Int) && decide (t.toList = t.toList) && n == n && (0 : Int) == 0) = true := by simp
      have hle : (mkB (writK 9 (sb t) n)).size = (writK 9 (sb t) n).length := mkB_size _
      rw [HSx.out] at hle
      rw [← hle] at hbk
      have hes := fun w => eq_tokR (9 : Int) (9 : Int) n n 0 0 t t w
      rw [hte] at hes
      clear hok hte hle hk0
      generalize (9 : Int).toNat = k' at *
      go_upto_region 31 with fail
      clear f1 l1
      have hHK := heap_setCell_same wx B 3 _ _ (.int .i64 0) hwx
      have HB2 := Lib.hid (HBx.out.setCell (p := ⟨B, 3, none⟩) hBB (.int .i64 0))
      generalize wx.setCell ⟨B, 3, none⟩ (.int .i64 0) = w2 at *
      have l2 := lt_of_blk hHK
      go_wp2_with fail
      refine (HRx.out w2).mono ?_
      rintro e w3 ⟨hb3, (⟨k3, t3, n3, q3, p3, tb, hr3, hq3, hp3, htb, rfl⟩ | ⟨n3, q3, hr3, _⟩)⟩
      case inr => rw [hbk] at hr3; cases hr3
      rw [hbk] at hr3
      simp only [Sum.inl.injEq, Prod.mk.injEq] at hr3
      obtain ⟨rfl, rfl, rfl, rfl, rfl⟩ := hr3
      have htt : tb = t := sb_inj htb
      subst htt
      have hw3 := (hb3.block _ l2).trans hHK
      have l3 := lt_of_blk hw3
      have HB3 := Lib.hid (HB2.out.trans (hb3.mono HB2.out.size))
      have hb4 : Below w3.heap.size w3 (w3.alloc (.cells #[.int .i64 (9 : Int), .string tb, .int .i64 n, .int .i64 0] 25)) := (Below.refl _ _).alloc (Nat.le_refl _) _
      have HB4 := Lib.hid (HB3.out.trans (hb4.mono HB3.out.size))
      have f3 := cells4L hw3
      have f4 := cells4L ((hb4.block _ l3).trans hw3)
      have f5 := cells4L (heap_alloc_new w3 (.cells #[.int .i64 (9 : Int), .string tb, .int .i64 n, .int .i64 0] 25))
      have l5 : w3.heap.size < (w3.alloc (.cells #[.int .i64 (9 : Int), .string tb, .int .i64 n, .int .i64 0] 25)).heap.size := lt_of_blk (heap_alloc_new w3 _)
      have l4 := Nat.lt_of_lt_of_le l3 hb4.size
      unfold tokV
      rw [hki]
      clear hki
      clear HRx HB2 HB3 hb3 hb4 hHK hw3 l2 htb hp3 hq3 HX
      go_wp2_with fail
      go_ret2
      exact ⟨HB4.out, .inl ⟨HOK.out, by rw [HSx.out]; rfl⟩⟩
    · have HOK := Lib.hid hok
      have HNo := Lib.hid (okT_iff 9 (sb t) n hok)
      rw [HSx.out, HX.out] at HNo
      have hte := HNo.out
      clear hok HNo
      have HNo := Lib.hid hte
      clear hte
      go_upto_region 31 with fail
      clear f1 l1
      have hHK := heap_setCell_same wx B 3 _ _ (.int .i64 0) hwx
      have HB2 := Lib.hid (HBx.out.setCell (p := ⟨B, 3, none⟩) hBB (.int .i64 0))
      generalize wx.setCell ⟨B, 3, none⟩ (.int .i64 0) = w2 at *
      have l2 := lt_of_blk hHK
      go_wp2_with fail
      refine (HRx.out w2).mono ?_
      rintro e w3 ⟨hb3, (⟨k3, t3, n3, q3, p3, tb, hr3, hq3, hp3, htb, rfl⟩ | ⟨n3, q3, hr3, hq3, rfl⟩)⟩
      · have hes := fun w => eq_tokR (k3 : Int) 9 n3 n (q3 : Int) 0 tb t w
        rw [tok_ne (HNo.out k3 t3 n3 q3 p3 hr3) htb] at hes
        have hw3 := (hb3.block _ l2).trans hHK
        have l3 := lt_of_blk hw3
        have HB3 := Lib.hid (HB2.out.trans (hb3.mono HB2.out.size))
        have hb4 : Below w3.heap.size w3 (w3.alloc (.cells #[.int .i64 (k3 : Int), .string tb, .int .i64 n3, .int .i64 (q3 : Int)] 25)) := (Below.refl _ _).alloc (Nat.le_refl _) _
        have HB4 := Lib.hid (HB3.out.trans (hb4.mono HB3.out.size))
        have f3 := cells4L hw3
        have f4 := cells4L ((hb4.block _ l3).trans hw3)
        have f5 := cells4L (heap_alloc_new w3 (.cells #[.int .i64 (k3 : Int), .string tb, .int .i64 n3, .int .i64 (q3 : Int)] 25))
        have l5 : w3.heap.size < (w3.alloc (.cells #[.int .i64 (k3 : Int), .string tb, .int .i64 n3, .int .i64 (q3 : Int)] 25)).heap.size := lt_of_blk (heap_alloc_new w3 _)
        have l4 := Nat.lt_of_lt_of_le l3 hb4.size
        unfold tokV
        clear HRx HB2 HB3 hb3 hb4 hHK hw3 l2 htb hp3 hq3 HX hr3 HNo
        go_wp2_with fail
        go_ret2
        exact ⟨HB4.out, .inr ⟨HOK.out, _, rfl⟩⟩
      · have hn3 := tokR_err (HX.out.trans hr3)
        have hnb : (n3 == 0) = false := by rw [beq_eq_false_iff_ne]; exact hn3
        have HB3 := Lib.hid ((HB2.out.trans (hb3.mono HB2.out.size)).alloc (HB2.out.trans (hb3.mono HB2.out.size)).size (.cells #[.int .i64 0, .string ⟨#[]⟩, .int .i64 0, .int .i64 0] 25))
        unfold tokV
        clear HRx HB2 hb3 hHK l2 hq3 HX hr3 HNo hn3
        go_wp2_with fail
        go_ret2
        exact ⟨HB3.out, .inr ⟨HOK.out, _, rfl⟩⟩
  · have hS0 : mkB (writK 10 (sb t) n) = (⟨#[94, 46, 59, 40, 41, 91, 93]⟩ : ByteArray).extract 2 3 := by
      show (⟨#[59]⟩ : ByteArray) = _
      decide +kernel
    go_upto_region 30 with fail
    obtain ⟨S, hS⟩ : ∃ S : ByteArray, (⟨#[94, 46, 59, 40, 41, 91, 93]⟩ : ByteArray).extract 2 3 = S := ⟨_, rfl⟩
    have HSz := Lib.hid (show S.size ≤ 16777216 by rw [← hS]; decide +kernel)
    have hSs := hS0.trans hS
    rw [hS]
    clear hS0 hS
    have hwx := hw0
    have HBx := HB0
    clear hw0 HB0 htx hqu har HIl HQl HMK
    generalize w1 = wx at *
    have HRx := Lib.hid (fun w' => rnext_any S 0 w' HSz.out (Nat.zero_le _))
    generalize hrr : tokR S 0 = rr at *
    have HX := Lib.hid hrr
    have HSx := Lib.hid hSs
    have hbs := HBx.out.size
    clear hrr hSs
    by_cases hok : okT 10 (sb t) n
    · have hbk := okT_back hok
      have hk0 := hok.1
      rw [HSx.out, HX.out] at hbk
      have HOK := Lib.hid hok
      have hki : (((10 : Int).toNat : Nat) : Int) = (10 : Int) := Int.toNat_of_nonneg hk0
      have hte : ((10 : Int) == (10 : Int) && decide (t.toList = t.toList) && n == n && (0 : Int) == 0) = true := by simp
      have hle : (mkB (writK 10 (sb t) n)).size = (writK 10 (sb t) n).length := mkB_size _
      rw [HSx.out] at hle
      rw [← hle] at hbk
      have hes := fun w => eq_tokR (10 : Int) (10 : Int) n n 0 0 t t w
      rw [hte] at hes
      clear hok hte hle hk0
      generalize (10 : Int).toNat = k' at *
      go_upto_region 31 with fail
      clear f1 l1
      have hHK := heap_setCell_same wx B 3 _ _ (.int .i64 0) hwx
      have HB2 := Lib.hid (HBx.out.setCell (p := ⟨B, 3, none⟩) hBB (.int .i64 0))
      generalize wx.setCell ⟨B, 3, none⟩ (.int .i64 0) = w2 at *
      have l2 := lt_of_blk hHK
      go_wp2_with fail
      refine (HRx.out w2).mono ?_
      rintro e w3 ⟨hb3, (⟨k3, t3, n3, q3, p3, tb, hr3, hq3, hp3, htb, rfl⟩ | ⟨n3, q3, hr3, _⟩)⟩
      case inr => rw [hbk] at hr3; cases hr3
      rw [hbk] at hr3
      simp only [Sum.inl.injEq, Prod.mk.injEq] at hr3
      obtain ⟨rfl, rfl, rfl, rfl, rfl⟩ := hr3
      have htt : tb = t := sb_inj htb
      subst htt
      have hw3 := (hb3.block _ l2).trans hHK
      have l3 := lt_of_blk hw3
      have HB3 := Lib.hid (HB2.out.trans (hb3.mono HB2.out.size))
      have hb4 : Below w3.heap.size w3 (w3.alloc (.cells #[.int .i64 (10 : Int), .string tb, .int .i64 n, .int .i64 0] 25)) := (Below.refl _ _).alloc (Nat.le_refl _) _
      have HB4 := Lib.hid (HB3.out.trans (hb4.mono HB3.out.size))
      have f3 := cells4L hw3
      have f4 := cells4L ((hb4.block _ l3).trans hw3)
      have f5 := cells4L (heap_alloc_new w3 (.cells #[.int .i64 (10 : Int), .string tb, .int .i64 n, .int .i64 0] 25))
      have l5 : w3.heap.size < (w3.alloc (.cells #[.int .i64 (10 : Int), .string tb, .int .i64 n, .int .i64 0] 25)).heap.size := lt_of_blk (heap_alloc_new w3 _)
      have l4 := Nat.lt_of_lt_of_le l3 hb4.size
      unfold tokV
      rw [hki]
      clear hki
      clear HRx HB2 HB3 hb3 hb4 hHK hw3 l2 htb hp3 hq3 HX
      go_wp2_with fail
      go_ret2
      exact ⟨HB4.out, .inl ⟨HOK.out, by rw [HSx.out]; rfl⟩⟩
    · have HOK := Lib.hid hok
      have HNo := Lib.hid (okT_iff 10 (sb t) n hok)
      rw [HSx.out, HX.out] at HNo
      have hte := HNo.out
      clear hok HNo
      have HNo := Lib.hid hte
      clear hte
      go_upto_region 31 with fail
      clear f1 l1
      have hHK := heap_setCell_same wx B 3 _ _ (.int .i64 0) hwx
      have HB2 := Lib.hid (HBx.out.setCell (p := ⟨B, 3, none⟩) hBB (.int .i64 0))
      generalize wx.setCell ⟨B, 3, none⟩ (.int .i64 0) = w2 at *
      have l2 := lt_of_blk hHK
      go_wp2_with fail
      refine (HRx.out w2).mono ?_
      rintro e w3 ⟨hb3, (⟨k3, t3, n3, q3, p3, tb, hr3, hq3, hp3, htb, rfl⟩ | ⟨n3, q3, hr3, hq3, rfl⟩)⟩
      · have hes := fun w => eq_tokR (k3 : Int) 10 n3 n (q3 : Int) 0 tb t w
        rw [tok_ne (HNo.out k3 t3 n3 q3 p3 hr3) htb] at hes
        have hw3 := (hb3.block _ l2).trans hHK
        have l3 := lt_of_blk hw3
        have HB3 := Lib.hid (HB2.out.trans (hb3.mono HB2.out.size))
        have hb4 : Below w3.heap.size w3 (w3.alloc (.cells #[.int .i64 (k3 : Int), .string tb, .int .i64 n3, .int .i64 (q3 : Int)] 25)) := (Below.refl _ _).alloc (Nat.le_refl _) _
        have HB4 := Lib.hid (HB3.out.trans (hb4.mono HB3.out.size))
        have f3 := cells4L hw3
        have f4 := cells4L ((hb4.block _ l3).trans hw3)
        have f5 := cells4L (heap_alloc_new w3 (.cells #[.int .i64 (k3 : Int), .string tb, .int .i64 n3, .int .i64 (q3 : Int)] 25))
        have l5 : w3.heap.size < (w3.alloc (.cells #[.int .i64 (k3 : Int), .string tb, .int .i64 n3, .int .i64 (q3 : Int)] 25)).heap.size := lt_of_blk (heap_alloc_new w3 _)
        have l4 := Nat.lt_of_lt_of_le l3 hb4.size
        unfold tokV
        clear HRx HB2 HB3 hb3 hb4 hHK hw3 l2 htb hp3 hq3 HX hr3 HNo
        go_wp2_with fail
        go_ret2
        exact ⟨HB4.out, .inr ⟨HOK.out, _, rfl⟩⟩
      · have hn3 := tokR_err (HX.out.trans hr3)
        have hnb : (n3 == 0) = false := by rw [beq_eq_false_iff_ne]; exact hn3
        have HB3 := Lib.hid ((HB2.out.trans (hb3.mono HB2.out.size)).alloc (HB2.out.trans (hb3.mono HB2.out.size)).size (.cells #[.int .i64 0, .string ⟨#[]⟩, .int .i64 0, .int .i64 0] 25))
        unfold tokV
        clear HRx HB2 hb3 hHK l2 hq3 HX hr3 HNo hn3
        go_wp2_with fail
        go_ret2
        exact ⟨HB3.out, .inr ⟨HOK.out, _, rfl⟩⟩
  · have hS0 : mkB (writK 11 (sb t) n) = (⟨#[94, 46, 59, 40, 41, 91, 93]⟩ : ByteArray).extract 3 4 := by
      show (⟨#[40]⟩ : ByteArray) = _
      decide +kernel
    go_upto_region 30 with fail
    obtain ⟨S, hS⟩ : ∃ S : ByteArray, (⟨#[94, 46, 59, 40, 41, 91, 93]⟩ : ByteArray).extract 3 4 = S := ⟨_, rfl⟩
    have HSz := Lib.hid (show S.size ≤ 16777216 by rw [← hS]; decide +kernel)
    have hSs := hS0.trans hS
    rw [hS]
    clear hS0 hS
    have hwx := hw0
    have HBx := HB0
    clear hw0 HB0 htx hqu har HIl HQl HMK
    generalize w1 = wx at *
    have HRx := Lib.hid (fun w' => rnext_any S 0 w' HSz.out (Nat.zero_le _))
    generalize hrr : tokR S 0 = rr at *
    have HX := Lib.hid hrr
    have HSx := Lib.hid hSs
    have hbs := HBx.out.size
    clear hrr hSs
    by_cases hok : okT 11 (sb t) n
    · have hbk := okT_back hok
      have hk0 := hok.1
      rw [HSx.out, HX.out] at hbk
      have HOK := Lib.hid hok
      have hki : (((11 : Int).toNat : Nat) : Int) = (11 : Int) := Int.toNat_of_nonneg hk0
      have hte : ((11 : Int) == (11 : Int) && decide (t.toList = t.toList) && n == n && (0 : Int) == 0) = true := by simp
      have hle : (mkB (writK 11 (sb t) n)).size = (writK 11 (sb t) n).length := mkB_size _
      rw [HSx.out] at hle
      rw [← hle] at hbk
      have hes := fun w => eq_tokR (11 : Int) (11 : Int) n n 0 0 t t w
      rw [hte] at hes
      clear hok hte hle hk0
      generalize (11 : Int).toNat = k' at *
      go_upto_region 31 with fail
      clear f1 l1
      have hHK := heap_setCell_same wx B 3 _ _ (.int .i64 0) hwx
      have HB2 := Lib.hid (HBx.out.setCell (p := ⟨B, 3, none⟩) hBB (.int .i64 0))
      generalize wx.setCell ⟨B, 3, none⟩ (.int .i64 0) = w2 at *
      have l2 := lt_of_blk hHK
      go_wp2_with fail
      refine (HRx.out w2).mono ?_
      rintro e w3 ⟨hb3, (⟨k3, t3, n3, q3, p3, tb, hr3, hq3, hp3, htb, rfl⟩ | ⟨n3, q3, hr3, _⟩)⟩
      case inr => rw [hbk] at hr3; cases hr3
      rw [hbk] at hr3
      simp only [Sum.inl.injEq, Prod.mk.injEq] at hr3
      obtain ⟨rfl, rfl, rfl, rfl, rfl⟩ := hr3
      have htt : tb = t := sb_inj htb
      subst htt
      have hw3 := (hb3.block _ l2).trans hHK
      have l3 := lt_of_blk hw3
      have HB3 := Lib.hid (HB2.out.trans (hb3.mono HB2.out.size))
      have hb4 : Below w3.heap.size w3 (w3.alloc (.cells #[.int .i64 (11 : Int), .string tb, .int .i64 n, .int .i64 0] 25)) := (Below.refl _ _).alloc (Nat.le_refl _) _
      have HB4 := Lib.hid (HB3.out.trans (hb4.mono HB3.out.size))
      have f3 := cells4L hw3
      have f4 := cells4L ((hb4.block _ l3).trans hw3)
      have f5 := cells4L (heap_alloc_new w3 (.cells #[.int .i64 (11 : Int), .string tb, .int .i64 n, .int .i64 0] 25))
      have l5 : w3.heap.size < (w3.alloc (.cells #[.int .i64 (11 : Int), .string tb, .int .i64 n, .int .i64 0] 25)).heap.size := lt_of_blk (heap_alloc_new w3 _)
      have l4 := Nat.lt_of_lt_of_le l3 hb4.size
      unfold tokV
      rw [hki]
      clear hki
      clear HRx HB2 HB3 hb3 hb4 hHK hw3 l2 htb hp3 hq3 HX
      go_wp2_with fail
      go_ret2
      exact ⟨HB4.out, .inl ⟨HOK.out, by rw [HSx.out]; rfl⟩⟩
    · have HOK := Lib.hid hok
      have HNo := Lib.hid (okT_iff 11 (sb t) n hok)
      rw [HSx.out, HX.out] at HNo
      have hte := HNo.out
      clear hok HNo
      have HNo := Lib.hid hte
      clear hte
      go_upto_region 31 with fail
      clear f1 l1
      have hHK := heap_setCell_same wx B 3 _ _ (.int .i64 0) hwx
      have HB2 := Lib.hid (HBx.out.setCell (p := ⟨B, 3, none⟩) hBB (.int .i64 0))
      generalize wx.setCell ⟨B, 3, none⟩ (.int .i64 0) = w2 at *
      have l2 := lt_of_blk hHK
      go_wp2_with fail
      refine (HRx.out w2).mono ?_
      rintro e w3 ⟨hb3, (⟨k3, t3, n3, q3, p3, tb, hr3, hq3, hp3, htb, rfl⟩ | ⟨n3, q3, hr3, hq3, rfl⟩)⟩
      · have hes := fun w => eq_tokR (k3 : Int) 11 n3 n (q3 : Int) 0 tb t w
        rw [tok_ne (HNo.out k3 t3 n3 q3 p3 hr3) htb] at hes
        have hw3 := (hb3.block _ l2).trans hHK
        have l3 := lt_of_blk hw3
        have HB3 := Lib.hid (HB2.out.trans (hb3.mono HB2.out.size))
        have hb4 : Below w3.heap.size w3 (w3.alloc (.cells #[.int .i64 (k3 : Int), .string tb, .int .i64 n3, .int .i64 (q3 : Int)] 25)) := (Below.refl _ _).alloc (Nat.le_refl _) _
        have HB4 := Lib.hid (HB3.out.trans (hb4.mono HB3.out.size))
        have f3 := cells4L hw3
        have f4 := cells4L ((hb4.block _ l3).trans hw3)
        have f5 := cells4L (heap_alloc_new w3 (.cells #[.int .i64 (k3 : Int), .string tb, .int .i64 n3, .int .i64 (q3 : Int)] 25))
        have l5 : w3.heap.size < (w3.alloc (.cells #[.int .i64 (k3 : Int), .string tb, .int .i64 n3, .int .i64 (q3 : Int)] 25)).heap.size := lt_of_blk (heap_alloc_new w3 _)
        have l4 := Nat.lt_of_lt_of_le l3 hb4.size
        unfold tokV
        clear HRx HB2 HB3 hb3 hb4 hHK hw3 l2 htb hp3 hq3 HX hr3 HNo
        go_wp2_with fail
        go_ret2
        exact ⟨HB4.out, .inr ⟨HOK.out, _, rfl⟩⟩
      · have hn3 := tokR_err (HX.out.trans hr3)
        have hnb : (n3 == 0) = false := by rw [beq_eq_false_iff_ne]; exact hn3
        have HB3 := Lib.hid ((HB2.out.trans (hb3.mono HB2.out.size)).alloc (HB2.out.trans (hb3.mono HB2.out.size)).size (.cells #[.int .i64 0, .string ⟨#[]⟩, .int .i64 0, .int .i64 0] 25))
        unfold tokV
        clear HRx HB2 hb3 hHK l2 hq3 HX hr3 HNo hn3
        go_wp2_with fail
        go_ret2
        exact ⟨HB3.out, .inr ⟨HOK.out, _, rfl⟩⟩
  · have hS0 : mkB (writK 12 (sb t) n) = (⟨#[94, 46, 59, 40, 41, 91, 93]⟩ : ByteArray).extract 4 5 := by
      show (⟨#[41]⟩ : ByteArray) = _
      decide +kernel
    go_upto_region 30 with fail
    obtain ⟨S, hS⟩ : ∃ S : ByteArray, (⟨#[94, 46, 59, 40, 41, 91, 93]⟩ : ByteArray).extract 4 5 = S := ⟨_, rfl⟩
    have HSz := Lib.hid (show S.size ≤ 16777216 by rw [← hS]; decide +kernel)
    have hSs := hS0.trans hS
    rw [hS]
    clear hS0 hS
    have hwx := hw0
    have HBx := HB0
    clear hw0 HB0 htx hqu har HIl HQl HMK
    generalize w1 = wx at *
    have HRx := Lib.hid (fun w' => rnext_any S 0 w' HSz.out (Nat.zero_le _))
    generalize hrr : tokR S 0 = rr at *
    have HX := Lib.hid hrr
    have HSx := Lib.hid hSs
    have hbs := HBx.out.size
    clear hrr hSs
    by_cases hok : okT 12 (sb t) n
    · have hbk := okT_back hok
      have hk0 := hok.1
      rw [HSx.out, HX.out] at hbk
      have HOK := Lib.hid hok
      have hki : (((12 : Int).toNat : Nat) : Int) = (12 : Int) := Int.toNat_of_nonneg hk0
      have hte : ((12 : Int) == (12 : Int) && decide (t.toList = t.toList) && n == n && (0 : Int) == 0) = true := by simp
      have hle : (mkB (writK 12 (sb t) n)).size = (writK 12 (sb t) n).length := mkB_size _
      rw [HSx.out] at hle
      rw [← hle] at hbk
      have hes := fun w => eq_tokR (12 : Int) (12 : Int) n n 0 0 t t w
      rw [hte] at hes
      clear hok hte hle hk0
      generalize (12 : Int).toNat = k' at *
      go_upto_region 31 with fail
      clear f1 l1
      have hHK := heap_setCell_same wx B 3 _ _ (.int .i64 0) hwx
      have HB2 := Lib.hid (HBx.out.setCell (p := ⟨B, 3, none⟩) hBB (.int .i64 0))
      generalize wx.setCell ⟨B, 3, none⟩ (.int .i64 0) = w2 at *
      have l2 := lt_of_blk hHK
      go_wp2_with fail
      refine (HRx.out w2).mono ?_
      rintro e w3 ⟨hb3, (⟨k3, t3, n3, q3, p3, tb, hr3, hq3, hp3, htb, rfl⟩ | ⟨n3, q3, hr3, _⟩)⟩
      case inr => rw [hbk] at hr3; cases hr3
      rw [hbk] at hr3
      simp only [Sum.inl.injEq, Prod.mk.injEq] at hr3
      obtain ⟨rfl, rfl, rfl, rfl, rfl⟩ := hr3
      have htt : tb = t := sb_inj htb
      subst htt
      have hw3 := (hb3.block _ l2).trans hHK
      have l3 := lt_of_blk hw3
      have HB3 := Lib.hid (HB2.out.trans (hb3.mono HB2.out.size))
      have hb4 : Below w3.heap.size w3 (w3.alloc (.cells #[.int .i64 (12 : Int), .string tb, .int .i64 n, .int .i64 0] 25)) := (Below.refl _ _).alloc (Nat.le_refl _) _
      have HB4 := Lib.hid (HB3.out.trans (hb4.mono HB3.out.size))
      have f3 := cells4L hw3
      have f4 := cells4L ((hb4.block _ l3).trans hw3)
      have f5 := cells4L (heap_alloc_new w3 (.cells #[.int .i64 (12 : Int), .string tb, .int .i64 n, .int .i64 0] 25))
      have l5 : w3.heap.size < (w3.alloc (.cells #[.int .i64 (12 : Int), .string tb, .int .i64 n, .int .i64 0] 25)).heap.size := lt_of_blk (heap_alloc_new w3 _)
      have l4 := Nat.lt_of_lt_of_le l3 hb4.size
      unfold tokV
      rw [hki]
      clear hki
      clear HRx HB2 HB3 hb3 hb4 hHK hw3 l2 htb hp3 hq3 HX
      go_wp2_with fail
      go_ret2
      exact ⟨HB4.out, .inl ⟨HOK.out, by rw [HSx.out]; rfl⟩⟩
    · have HOK := Lib.hid hok
      have HNo := Lib.hid (okT_iff 12 (sb t) n hok)
      rw [HSx.out, HX.out] at HNo
      have hte := HNo.out
      clear hok HNo
      have HNo := Lib.hid hte
      clear hte
      go_upto_region 31 with fail
      clear f1 l1
      have hHK := heap_setCell_same wx B 3 _ _ (.int .i64 0) hwx
      have HB2 := Lib.hid (HBx.out.setCell (p := ⟨B, 3, none⟩) hBB (.int .i64 0))
      generalize wx.setCell ⟨B, 3, none⟩ (.int .i64 0) = w2 at *
      have l2 := lt_of_blk hHK
      go_wp2_with fail
      refine (HRx.out w2).mono ?_
      rintro e w3 ⟨hb3, (⟨k3, t3, n3, q3, p3, tb, hr3, hq3, hp3, htb, rfl⟩ | ⟨n3, q3, hr3, hq3, rfl⟩)⟩
      · have hes := fun w => eq_tokR (k3 : Int) 12 n3 n (q3 : Int) 0 tb t w
        rw [tok_ne (HNo.out k3 t3 n3 q3 p3 hr3) htb] at hes
        have hw3 := (hb3.block _ l2).trans hHK
        have l3 := lt_of_blk hw3
        have HB3 := Lib.hid (HB2.out.trans (hb3.mono HB2.out.size))
        have hb4 : Below w3.heap.size w3 (w3.alloc (.cells #[.int .i64 (k3 : Int), .string tb, .int .i64 n3, .int .i64 (q3 : Int)] 25)) := (Below.refl _ _).alloc (Nat.le_refl _) _
        have HB4 := Lib.hid (HB3.out.trans (hb4.mono HB3.out.size))
        have f3 := cells4L hw3
        have f4 := cells4L ((hb4.block _ l3).trans hw3)
        have f5 := cells4L (heap_alloc_new w3 (.cells #[.int .i64 (k3 : Int), .string tb, .int .i64 n3, .int .i64 (q3 : Int)] 25))
        have l5 : w3.heap.size < (w3.alloc (.cells #[.int .i64 (k3 : Int), .string tb, .int .i64 n3, .int .i64 (q3 : Int)] 25)).heap.size := lt_of_blk (heap_alloc_new w3 _)
        have l4 := Nat.lt_of_lt_of_le l3 hb4.size
        unfold tokV
        clear HRx HB2 HB3 hb3 hb4 hHK hw3 l2 htb hp3 hq3 HX hr3 HNo
        go_wp2_with fail
        go_ret2
        exact ⟨HB4.out, .inr ⟨HOK.out, _, rfl⟩⟩
      · have hn3 := tokR_err (HX.out.trans hr3)
        have hnb : (n3 == 0) = false := by rw [beq_eq_false_iff_ne]; exact hn3
        have HB3 := Lib.hid ((HB2.out.trans (hb3.mono HB2.out.size)).alloc (HB2.out.trans (hb3.mono HB2.out.size)).size (.cells #[.int .i64 0, .string ⟨#[]⟩, .int .i64 0, .int .i64 0] 25))
        unfold tokV
        clear HRx HB2 hb3 hHK l2 hq3 HX hr3 HNo hn3
        go_wp2_with fail
        go_ret2
        exact ⟨HB3.out, .inr ⟨HOK.out, _, rfl⟩⟩
  · have hS0 : mkB (writK 13 (sb t) n) = (⟨#[94, 46, 59, 40, 41, 91, 93]⟩ : ByteArray).extract 5 6 := by
      show (⟨#[91]⟩ : ByteArray) = _
      decide +kernel
    go_upto_region 30 with fail
    obtain ⟨S, hS⟩ : ∃ S : ByteArray, (⟨#[94, 46, 59, 40, 41, 91, 93]⟩ : ByteArray).extract 5 6 = S := ⟨_, rfl⟩
    have HSz := Lib.hid (show S.size ≤ 16777216 by rw [← hS]; decide +kernel)
    have hSs := hS0.trans hS
    rw [hS]
    clear hS0 hS
    have hwx := hw0
    have HBx := HB0
    clear hw0 HB0 htx hqu har HIl HQl HMK
    generalize w1 = wx at *
    have HRx := Lib.hid (fun w' => rnext_any S 0 w' HSz.out (Nat.zero_le _))
    generalize hrr : tokR S 0 = rr at *
    have HX := Lib.hid hrr
    have HSx := Lib.hid hSs
    have hbs := HBx.out.size
    clear hrr hSs
    by_cases hok : okT 13 (sb t) n
    · have hbk := okT_back hok
      have hk0 := hok.1
      rw [HSx.out, HX.out] at hbk
      have HOK := Lib.hid hok
      have hki : (((13 : Int).toNat : Nat) : Int) = (13 : Int) := Int.toNat_of_nonneg hk0
      have hte : ((13 : Int) == (13 : Int) && decide (t.toList = t.toList) && n == n && (0 : Int) == 0) = true := by simp
      have hle : (mkB (writK 13 (sb t) n)).size = (writK 13 (sb t) n).length := mkB_size _
      rw [HSx.out] at hle
      rw [← hle] at hbk
      have hes := fun w => eq_tokR (13 : Int) (13 : Int) n n 0 0 t t w
      rw [hte] at hes
      clear hok hte hle hk0
      generalize (13 : Int).toNat = k' at *
      go_upto_region 31 with fail
      clear f1 l1
      have hHK := heap_setCell_same wx B 3 _ _ (.int .i64 0) hwx
      have HB2 := Lib.hid (HBx.out.setCell (p := ⟨B, 3, none⟩) hBB (.int .i64 0))
      generalize wx.setCell ⟨B, 3, none⟩ (.int .i64 0) = w2 at *
      have l2 := lt_of_blk hHK
      go_wp2_with fail
      refine (HRx.out w2).mono ?_
      rintro e w3 ⟨hb3, (⟨k3, t3, n3, q3, p3, tb, hr3, hq3, hp3, htb, rfl⟩ | ⟨n3, q3, hr3, _⟩)⟩
      case inr => rw [hbk] at hr3; cases hr3
      rw [hbk] at hr3
      simp only [Sum.inl.injEq, Prod.mk.injEq] at hr3
      obtain ⟨rfl, rfl, rfl, rfl, rfl⟩ := hr3
      have htt : tb = t := sb_inj htb
      subst htt
      have hw3 := (hb3.block _ l2).trans hHK
      have l3 := lt_of_blk hw3
      have HB3 := Lib.hid (HB2.out.trans (hb3.mono HB2.out.size))
      have hb4 : Below w3.heap.size w3 (w3.alloc (.cells #[.int .i64 (13 : Int), .string tb, .int .i64 n, .int .i64 0] 25)) := (Below.refl _ _).alloc (Nat.le_refl _) _
      have HB4 := Lib.hid (HB3.out.trans (hb4.mono HB3.out.size))
      have f3 := cells4L hw3
      have f4 := cells4L ((hb4.block _ l3).trans hw3)
      have f5 := cells4L (heap_alloc_new w3 (.cells #[.int .i64 (13 : Int), .string tb, .int .i64 n, .int .i64 0] 25))
      have l5 : w3.heap.size < (w3.alloc (.cells #[.int .i64 (13 : Int), .string tb, .int .i64 n, .int .i64 0] 25)).heap.size := lt_of_blk (heap_alloc_new w3 _)
      have l4 := Nat.lt_of_lt_of_le l3 hb4.size
      unfold tokV
      rw [hki]
      clear hki
      clear HRx HB2 HB3 hb3 hb4 hHK hw3 l2 htb hp3 hq3 HX
      go_wp2_with fail
      go_ret2
      exact ⟨HB4.out, .inl ⟨HOK.out, by rw [HSx.out]; rfl⟩⟩
    · have HOK := Lib.hid hok
      have HNo := Lib.hid (okT_iff 13 (sb t) n hok)
      rw [HSx.out, HX.out] at HNo
      have hte := HNo.out
      clear hok HNo
      have HNo := Lib.hid hte
      clear hte
      go_upto_region 31 with fail
      clear f1 l1
      have hHK := heap_setCell_same wx B 3 _ _ (.int .i64 0) hwx
      have HB2 := Lib.hid (HBx.out.setCell (p := ⟨B, 3, none⟩) hBB (.int .i64 0))
      generalize wx.setCell ⟨B, 3, none⟩ (.int .i64 0) = w2 at *
      have l2 := lt_of_blk hHK
      go_wp2_with fail
      refine (HRx.out w2).mono ?_
      rintro e w3 ⟨hb3, (⟨k3, t3, n3, q3, p3, tb, hr3, hq3, hp3, htb, rfl⟩ | ⟨n3, q3, hr3, hq3, rfl⟩)⟩
      · have hes := fun w => eq_tokR (k3 : Int) 13 n3 n (q3 : Int) 0 tb t w
        rw [tok_ne (HNo.out k3 t3 n3 q3 p3 hr3) htb] at hes
        have hw3 := (hb3.block _ l2).trans hHK
        have l3 := lt_of_blk hw3
        have HB3 := Lib.hid (HB2.out.trans (hb3.mono HB2.out.size))
        have hb4 : Below w3.heap.size w3 (w3.alloc (.cells #[.int .i64 (k3 : Int), .string tb, .int .i64 n3, .int .i64 (q3 : Int)] 25)) := (Below.refl _ _).alloc (Nat.le_refl _) _
        have HB4 := Lib.hid (HB3.out.trans (hb4.mono HB3.out.size))
        have f3 := cells4L hw3
        have f4 := cells4L ((hb4.block _ l3).trans hw3)
        have f5 := cells4L (heap_alloc_new w3 (.cells #[.int .i64 (k3 : Int), .string tb, .int .i64 n3, .int .i64 (q3 : Int)] 25))
        have l5 : w3.heap.size < (w3.alloc (.cells #[.int .i64 (k3 : Int), .string tb, .int .i64 n3, .int .i64 (q3 : Int)] 25)).heap.size := lt_of_blk (heap_alloc_new w3 _)
        have l4 := Nat.lt_of_lt_of_le l3 hb4.size
        unfold tokV
        clear HRx HB2 HB3 hb3 hb4 hHK hw3 l2 htb hp3 hq3 HX hr3 HNo
        go_wp2_with fail
        go_ret2
        exact ⟨HB4.out, .inr ⟨HOK.out, _, rfl⟩⟩
      · have hn3 := tokR_err (HX.out.trans hr3)
        have hnb : (n3 == 0) = false := by rw [beq_eq_false_iff_ne]; exact hn3
        have HB3 := Lib.hid ((HB2.out.trans (hb3.mono HB2.out.size)).alloc (HB2.out.trans (hb3.mono HB2.out.size)).size (.cells #[.int .i64 0, .string ⟨#[]⟩, .int .i64 0, .int .i64 0] 25))
        unfold tokV
        clear HRx HB2 hb3 hHK l2 hq3 HX hr3 HNo hn3
        go_wp2_with fail
        go_ret2
        exact ⟨HB3.out, .inr ⟨HOK.out, _, rfl⟩⟩
  · have hS0 : mkB (writK 14 (sb t) n) = (⟨#[94, 46, 59, 40, 41, 91, 93]⟩ : ByteArray).extract 6 7 := by
      show (⟨#[93]⟩ : ByteArray) = _
      decide +kernel
    go_upto_region 30 with fail
    obtain ⟨S, hS⟩ : ∃ S : ByteArray, (⟨#[94, 46, 59, 40, 41, 91, 93]⟩ : ByteArray).extract 6 7 = S := ⟨_, rfl⟩
    have HSz := Lib.hid (show S.size ≤ 16777216 by rw [← hS]; decide +kernel)
    have hSs := hS0.trans hS
    rw [hS]
    clear hS0 hS
    have hwx := hw0
    have HBx := HB0
    clear hw0 HB0 htx hqu har HIl HQl HMK
    generalize w1 = wx at *
    have HRx := Lib.hid (fun w' => rnext_any S 0 w' HSz.out (Nat.zero_le _))
    generalize hrr : tokR S 0 = rr at *
    have HX := Lib.hid hrr
    have HSx := Lib.hid hSs
    have hbs := HBx.out.size
    clear hrr hSs
    by_cases hok : okT 14 (sb t) n
    · have hbk := okT_back hok
      have hk0 := hok.1
      rw [HSx.out, HX.out] at hbk
      have HOK := Lib.hid hok
      have hki : (((14 : Int).toNat : Nat) : Int) = (14 : Int) := Int.toNat_of_nonneg hk0
      have hte : ((14 : Int) == (14 : Int) && decide (t.toList = t.toList) && n == n && (0 : Int) == 0) = true := by simp
      have hle : (mkB (writK 14 (sb t) n)).size = (writK 14 (sb t) n).length := mkB_size _
      rw [HSx.out] at hle
      rw [← hle] at hbk
      have hes := fun w => eq_tokR (14 : Int) (14 : Int) n n 0 0 t t w
      rw [hte] at hes
      clear hok hte hle hk0
      generalize (14 : Int).toNat = k' at *
      go_upto_region 31 with fail
      clear f1 l1
      have hHK := heap_setCell_same wx B 3 _ _ (.int .i64 0) hwx
      have HB2 := Lib.hid (HBx.out.setCell (p := ⟨B, 3, none⟩) hBB (.int .i64 0))
      generalize wx.setCell ⟨B, 3, none⟩ (.int .i64 0) = w2 at *
      have l2 := lt_of_blk hHK
      go_wp2_with fail
      refine (HRx.out w2).mono ?_
      rintro e w3 ⟨hb3, (⟨k3, t3, n3, q3, p3, tb, hr3, hq3, hp3, htb, rfl⟩ | ⟨n3, q3, hr3, _⟩)⟩
      case inr => rw [hbk] at hr3; cases hr3
      rw [hbk] at hr3
      simp only [Sum.inl.injEq, Prod.mk.injEq] at hr3
      obtain ⟨rfl, rfl, rfl, rfl, rfl⟩ := hr3
      have htt : tb = t := sb_inj htb
      subst htt
      have hw3 := (hb3.block _ l2).trans hHK
      have l3 := lt_of_blk hw3
      have HB3 := Lib.hid (HB2.out.trans (hb3.mono HB2.out.size))
      have hb4 : Below w3.heap.size w3 (w3.alloc (.cells #[.int .i64 (14 : Int), .string tb, .int .i64 n, .int .i64 0] 25)) := (Below.refl _ _).alloc (Nat.le_refl _) _
      have HB4 := Lib.hid (HB3.out.trans (hb4.mono HB3.out.size))
      have f3 := cells4L hw3
      have f4 := cells4L ((hb4.block _ l3).trans hw3)
      have f5 := cells4L (heap_alloc_new w3 (.cells #[.int .i64 (14 : Int), .string tb, .int .i64 n, .int .i64 0] 25))
      have l5 : w3.heap.size < (w3.alloc (.cells #[.int .i64 (14 : Int), .string tb, .int .i64 n, .int .i64 0] 25)).heap.size := lt_of_blk (heap_alloc_new w3 _)
      have l4 := Nat.lt_of_lt_of_le l3 hb4.size
      unfold tokV
      rw [hki]
      clear hki
      clear HRx HB2 HB3 hb3 hb4 hHK hw3 l2 htb hp3 hq3 HX
      go_wp2_with fail
      go_ret2
      exact ⟨HB4.out, .inl ⟨HOK.out, by rw [HSx.out]; rfl⟩⟩
    · have HOK := Lib.hid hok
      have HNo := Lib.hid (okT_iff 14 (sb t) n hok)
      rw [HSx.out, HX.out] at HNo
      have hte := HNo.out
      clear hok HNo
      have HNo := Lib.hid hte
      clear hte
      go_upto_region 31 with fail
      clear f1 l1
      have hHK := heap_setCell_same wx B 3 _ _ (.int .i64 0) hwx
      have HB2 := Lib.hid (HBx.out.setCell (p := ⟨B, 3, none⟩) hBB (.int .i64 0))
      generalize wx.setCell ⟨B, 3, none⟩ (.int .i64 0) = w2 at *
      have l2 := lt_of_blk hHK
      go_wp2_with fail
      refine (HRx.out w2).mono ?_
      rintro e w3 ⟨hb3, (⟨k3, t3, n3, q3, p3, tb, hr3, hq3, hp3, htb, rfl⟩ | ⟨n3, q3, hr3, hq3, rfl⟩)⟩
      · have hes := fun w => eq_tokR (k3 : Int) 14 n3 n (q3 : Int) 0 tb t w
        rw [tok_ne (HNo.out k3 t3 n3 q3 p3 hr3) htb] at hes
        have hw3 := (hb3.block _ l2).trans hHK
        have l3 := lt_of_blk hw3
        have HB3 := Lib.hid (HB2.out.trans (hb3.mono HB2.out.size))
        have hb4 : Below w3.heap.size w3 (w3.alloc (.cells #[.int .i64 (k3 : Int), .string tb, .int .i64 n3, .int .i64 (q3 : Int)] 25)) := (Below.refl _ _).alloc (Nat.le_refl _) _
        have HB4 := Lib.hid (HB3.out.trans (hb4.mono HB3.out.size))
        have f3 := cells4L hw3
        have f4 := cells4L ((hb4.block _ l3).trans hw3)
        have f5 := cells4L (heap_alloc_new w3 (.cells #[.int .i64 (k3 : Int), .string tb, .int .i64 n3, .int .i64 (q3 : Int)] 25))
        have l5 : w3.heap.size < (w3.alloc (.cells #[.int .i64 (k3 : Int), .string tb, .int .i64 n3, .int .i64 (q3 : Int)] 25)).heap.size := lt_of_blk (heap_alloc_new w3 _)
        have l4 := Nat.lt_of_lt_of_le l3 hb4.size
        unfold tokV
        clear HRx HB2 HB3 hb3 hb4 hHK hw3 l2 htb hp3 hq3 HX hr3 HNo
        go_wp2_with fail
        go_ret2
        exact ⟨HB4.out, .inr ⟨HOK.out, _, rfl⟩⟩
      · have hn3 := tokR_err (HX.out.trans hr3)
        have hnb : (n3 == 0) = false := by rw [beq_eq_false_iff_ne]; exact hn3
        have HB3 := Lib.hid ((HB2.out.trans (hb3.mono HB2.out.size)).alloc (HB2.out.trans (hb3.mono HB2.out.size)).size (.cells #[.int .i64 0, .string ⟨#[]⟩, .int .i64 0, .int .i64 0] 25))
        unfold tokV
        clear HRx HB2 hb3 hHK l2 hq3 HX hr3 HNo hn3
        go_wp2_with fail
        go_ret2
        exact ⟨HB3.out, .inr ⟨HOK.out, _, rfl⟩⟩
  · have hS0 : mkB (writK 15 (sb t) n) = ⟨#[35, 40]⟩ := rfl
    go_upto_region 30 with fail
    obtain ⟨S, hS⟩ : ∃ S : ByteArray, (⟨#[35, 40]⟩ : ByteArray) = S := ⟨_, rfl⟩
    have HSz := Lib.hid (show S.size ≤ 16777216 by rw [← hS]; decide)
    have hSs := hS0.trans hS
    rw [hS]
    clear hS0 hS
    have hwx := hw0
    have HBx := HB0
    clear hw0 HB0 htx hqu har HIl HQl HMK
    generalize w1 = wx at *
    have HRx := Lib.hid (fun w' => rnext_any S 0 w' HSz.out (Nat.zero_le _))
    generalize hrr : tokR S 0 = rr at *
    have HX := Lib.hid hrr
    have HSx := Lib.hid hSs
    have hbs := HBx.out.size
    clear hrr hSs
    by_cases hok : okT 15 (sb t) n
    · have hbk := okT_back hok
      have hk0 := hok.1
      rw [HSx.out, HX.out] at hbk
      have HOK := Lib.hid hok
      have hki : (((15 : Int).toNat : Nat) : Int) = (15 : Int) := Int.toNat_of_nonneg hk0
      have hte : ((15 : Int) == (15 : Int) && decide (t.toList = t.toList) && n == n && (0 : Int) == 0) = true := by simp
      have hle : (mkB (writK 15 (sb t) n)).size = (writK 15 (sb t) n).length := mkB_size _
      rw [HSx.out] at hle
      rw [← hle] at hbk
      have hes := fun w => eq_tokR (15 : Int) (15 : Int) n n 0 0 t t w
      rw [hte] at hes
      clear hok hte hle hk0
      generalize (15 : Int).toNat = k' at *
      go_upto_region 31 with fail
      clear f1 l1
      have hHK := heap_setCell_same wx B 3 _ _ (.int .i64 0) hwx
      have HB2 := Lib.hid (HBx.out.setCell (p := ⟨B, 3, none⟩) hBB (.int .i64 0))
      generalize wx.setCell ⟨B, 3, none⟩ (.int .i64 0) = w2 at *
      have l2 := lt_of_blk hHK
      go_wp2_with fail
      refine (HRx.out w2).mono ?_
      rintro e w3 ⟨hb3, (⟨k3, t3, n3, q3, p3, tb, hr3, hq3, hp3, htb, rfl⟩ | ⟨n3, q3, hr3, _⟩)⟩
      case inr => rw [hbk] at hr3; cases hr3
      rw [hbk] at hr3
      simp only [Sum.inl.injEq, Prod.mk.injEq] at hr3
      obtain ⟨rfl, rfl, rfl, rfl, rfl⟩ := hr3
      have htt : tb = t := sb_inj htb
      subst htt
      have hw3 := (hb3.block _ l2).trans hHK
      have l3 := lt_of_blk hw3
      have HB3 := Lib.hid (HB2.out.trans (hb3.mono HB2.out.size))
      have hb4 : Below w3.heap.size w3 (w3.alloc (.cells #[.int .i64 (15 : Int), .string tb, .int .i64 n, .int .i64 0] 25)) := (Below.refl _ _).alloc (Nat.le_refl _) _
      have HB4 := Lib.hid (HB3.out.trans (hb4.mono HB3.out.size))
      have f3 := cells4L hw3
      have f4 := cells4L ((hb4.block _ l3).trans hw3)
      have f5 := cells4L (heap_alloc_new w3 (.cells #[.int .i64 (15 : Int), .string tb, .int .i64 n, .int .i64 0] 25))
      have l5 : w3.heap.size < (w3.alloc (.cells #[.int .i64 (15 : Int), .string tb, .int .i64 n, .int .i64 0] 25)).heap.size := lt_of_blk (heap_alloc_new w3 _)
      have l4 := Nat.lt_of_lt_of_le l3 hb4.size
      unfold tokV
      rw [hki]
      clear hki
      clear HRx HB2 HB3 hb3 hb4 hHK hw3 l2 htb hp3 hq3 HX
      go_wp2_with fail
      go_ret2
      exact ⟨HB4.out, .inl ⟨HOK.out, by rw [HSx.out]; rfl⟩⟩
    · have HOK := Lib.hid hok
      have HNo := Lib.hid (okT_iff 15 (sb t) n hok)
      rw [HSx.out, HX.out] at HNo
      have hte := HNo.out
      clear hok HNo
      have HNo := Lib.hid hte
      clear hte
      go_upto_region 31 with fail
      clear f1 l1
      have hHK := heap_setCell_same wx B 3 _ _ (.int .i64 0) hwx
      have HB2 := Lib.hid (HBx.out.setCell (p := ⟨B, 3, none⟩) hBB (.int .i64 0))
      generalize wx.setCell ⟨B, 3, none⟩ (.int .i64 0) = w2 at *
      have l2 := lt_of_blk hHK
      go_wp2_with fail
      refine (HRx.out w2).mono ?_
      rintro e w3 ⟨hb3, (⟨k3, t3, n3, q3, p3, tb, hr3, hq3, hp3, htb, rfl⟩ | ⟨n3, q3, hr3, hq3, rfl⟩)⟩
      · have hes := fun w => eq_tokR (k3 : Int) 15 n3 n (q3 : Int) 0 tb t w
        rw [tok_ne (HNo.out k3 t3 n3 q3 p3 hr3) htb] at hes
        have hw3 := (hb3.block _ l2).trans hHK
        have l3 := lt_of_blk hw3
        have HB3 := Lib.hid (HB2.out.trans (hb3.mono HB2.out.size))
        have hb4 : Below w3.heap.size w3 (w3.alloc (.cells #[.int .i64 (k3 : Int), .string tb, .int .i64 n3, .int .i64 (q3 : Int)] 25)) := (Below.refl _ _).alloc (Nat.le_refl _) _
        have HB4 := Lib.hid (HB3.out.trans (hb4.mono HB3.out.size))
        have f3 := cells4L hw3
        have f4 := cells4L ((hb4.block _ l3).trans hw3)
        have f5 := cells4L (heap_alloc_new w3 (.cells #[.int .i64 (k3 : Int), .string tb, .int .i64 n3, .int .i64 (q3 : Int)] 25))
        have l5 : w3.heap.size < (w3.alloc (.cells #[.int .i64 (k3 : Int), .string tb, .int .i64 n3, .int .i64 (q3 : Int)] 25)).heap.size := lt_of_blk (heap_alloc_new w3 _)
        have l4 := Nat.lt_of_lt_of_le l3 hb4.size
        unfold tokV
        clear HRx HB2 HB3 hb3 hb4 hHK hw3 l2 htb hp3 hq3 HX hr3 HNo
        go_wp2_with fail
        go_ret2
        exact ⟨HB4.out, .inr ⟨HOK.out, _, rfl⟩⟩
      · have hn3 := tokR_err (HX.out.trans hr3)
        have hnb : (n3 == 0) = false := by rw [beq_eq_false_iff_ne]; exact hn3
        have HB3 := Lib.hid ((HB2.out.trans (hb3.mono HB2.out.size)).alloc (HB2.out.trans (hb3.mono HB2.out.size)).size (.cells #[.int .i64 0, .string ⟨#[]⟩, .int .i64 0, .int .i64 0] 25))
        unfold tokV
        clear HRx HB2 hb3 hHK l2 hq3 HX hr3 HNo hn3
        go_wp2_with fail
        go_ret2
        exact ⟨HB3.out, .inr ⟨HOK.out, _, rfl⟩⟩
  · have hS0 : mkB (writK 16 (sb t) n) = ⟨#[58]⟩ := rfl
    go_upto_region 30 with fail
    obtain ⟨S, hS⟩ : ∃ S : ByteArray, (⟨#[58]⟩ : ByteArray) = S := ⟨_, rfl⟩
    have HSz := Lib.hid (show S.size ≤ 16777216 by rw [← hS]; decide)
    have hSs := hS0.trans hS
    rw [hS]
    clear hS0 hS
    have hwx := hw0
    have HBx := HB0
    clear hw0 HB0 htx hqu har HIl HQl HMK
    generalize w1 = wx at *
    have HRx := Lib.hid (fun w' => rnext_any S 0 w' HSz.out (Nat.zero_le _))
    generalize hrr : tokR S 0 = rr at *
    have HX := Lib.hid hrr
    have HSx := Lib.hid hSs
    have hbs := HBx.out.size
    clear hrr hSs
    by_cases hok : okT 16 (sb t) n
    · have hbk := okT_back hok
      have hk0 := hok.1
      rw [HSx.out, HX.out] at hbk
      have HOK := Lib.hid hok
      have hki : (((16 : Int).toNat : Nat) : Int) = (16 : Int) := Int.toNat_of_nonneg hk0
      have hte : ((16 : Int) == (16 : Int) && decide (t.toList = t.toList) && n == n && (0 : Int) == 0) = true := by simp
      have hle : (mkB (writK 16 (sb t) n)).size = (writK 16 (sb t) n).length := mkB_size _
      rw [HSx.out] at hle
      rw [← hle] at hbk
      have hes := fun w => eq_tokR (16 : Int) (16 : Int) n n 0 0 t t w
      rw [hte] at hes
      clear hok hte hle hk0
      generalize (16 : Int).toNat = k' at *
      go_upto_region 31 with fail
      clear f1 l1
      have hHK := heap_setCell_same wx B 3 _ _ (.int .i64 0) hwx
      have HB2 := Lib.hid (HBx.out.setCell (p := ⟨B, 3, none⟩) hBB (.int .i64 0))
      generalize wx.setCell ⟨B, 3, none⟩ (.int .i64 0) = w2 at *
      have l2 := lt_of_blk hHK
      go_wp2_with fail
      refine (HRx.out w2).mono ?_
      rintro e w3 ⟨hb3, (⟨k3, t3, n3, q3, p3, tb, hr3, hq3, hp3, htb, rfl⟩ | ⟨n3, q3, hr3, _⟩)⟩
      case inr => rw [hbk] at hr3; cases hr3
      rw [hbk] at hr3
      simp only [Sum.inl.injEq, Prod.mk.injEq] at hr3
      obtain ⟨rfl, rfl, rfl, rfl, rfl⟩ := hr3
      have htt : tb = t := sb_inj htb
      subst htt
      have hw3 := (hb3.block _ l2).trans hHK
      have l3 := lt_of_blk hw3
      have HB3 := Lib.hid (HB2.out.trans (hb3.mono HB2.out.size))
      have hb4 : Below w3.heap.size w3 (w3.alloc (.cells #[.int .i64 (16 : Int), .string tb, .int .i64 n, .int .i64 0] 25)) := (Below.refl _ _).alloc (Nat.le_refl _) _
      have HB4 := Lib.hid (HB3.out.trans (hb4.mono HB3.out.size))
      have f3 := cells4L hw3
      have f4 := cells4L ((hb4.block _ l3).trans hw3)
      have f5 := cells4L (heap_alloc_new w3 (.cells #[.int .i64 (16 : Int), .string tb, .int .i64 n, .int .i64 0] 25))
      have l5 : w3.heap.size < (w3.alloc (.cells #[.int .i64 (16 : Int), .string tb, .int .i64 n, .int .i64 0] 25)).heap.size := lt_of_blk (heap_alloc_new w3 _)
      have l4 := Nat.lt_of_lt_of_le l3 hb4.size
      unfold tokV
      rw [hki]
      clear hki
      clear HRx HB2 HB3 hb3 hb4 hHK hw3 l2 htb hp3 hq3 HX
      go_wp2_with fail
      go_ret2
      exact ⟨HB4.out, .inl ⟨HOK.out, by rw [HSx.out]; rfl⟩⟩
    · have HOK := Lib.hid hok
      have HNo := Lib.hid (okT_iff 16 (sb t) n hok)
      rw [HSx.out, HX.out] at HNo
      have hte := HNo.out
      clear hok HNo
      have HNo := Lib.hid hte
      clear hte
      go_upto_region 31 with fail
      clear f1 l1
      have hHK := heap_setCell_same wx B 3 _ _ (.int .i64 0) hwx
      have HB2 := Lib.hid (HBx.out.setCell (p := ⟨B, 3, none⟩) hBB (.int .i64 0))
      generalize wx.setCell ⟨B, 3, none⟩ (.int .i64 0) = w2 at *
      have l2 := lt_of_blk hHK
      go_wp2_with fail
      refine (HRx.out w2).mono ?_
      rintro e w3 ⟨hb3, (⟨k3, t3, n3, q3, p3, tb, hr3, hq3, hp3, htb, rfl⟩ | ⟨n3, q3, hr3, hq3, rfl⟩)⟩
      · have hes := fun w => eq_tokR (k3 : Int) 16 n3 n (q3 : Int) 0 tb t w
        rw [tok_ne (HNo.out k3 t3 n3 q3 p3 hr3) htb] at hes
        have hw3 := (hb3.block _ l2).trans hHK
        have l3 := lt_of_blk hw3
        have HB3 := Lib.hid (HB2.out.trans (hb3.mono HB2.out.size))
        have hb4 : Below w3.heap.size w3 (w3.alloc (.cells #[.int .i64 (k3 : Int), .string tb, .int .i64 n3, .int .i64 (q3 : Int)] 25)) := (Below.refl _ _).alloc (Nat.le_refl _) _
        have HB4 := Lib.hid (HB3.out.trans (hb4.mono HB3.out.size))
        have f3 := cells4L hw3
        have f4 := cells4L ((hb4.block _ l3).trans hw3)
        have f5 := cells4L (heap_alloc_new w3 (.cells #[.int .i64 (k3 : Int), .string tb, .int .i64 n3, .int .i64 (q3 : Int)] 25))
        have l5 : w3.heap.size < (w3.alloc (.cells #[.int .i64 (k3 : Int), .string tb, .int .i64 n3, .int .i64 (q3 : Int)] 25)).heap.size := lt_of_blk (heap_alloc_new w3 _)
        have l4 := Nat.lt_of_lt_of_le l3 hb4.size
        unfold tokV
        clear HRx HB2 HB3 hb3 hb4 hHK hw3 l2 htb hp3 hq3 HX hr3 HNo
        go_wp2_with fail
        go_ret2
        exact ⟨HB4.out, .inr ⟨HOK.out, _, rfl⟩⟩
      · have hn3 := tokR_err (HX.out.trans hr3)
        have hnb : (n3 == 0) = false := by rw [beq_eq_false_iff_ne]; exact hn3
        have HB3 := Lib.hid ((HB2.out.trans (hb3.mono HB2.out.size)).alloc (HB2.out.trans (hb3.mono HB2.out.size)).size (.cells #[.int .i64 0, .string ⟨#[]⟩, .int .i64 0, .int .i64 0] 25))
        unfold tokV
        clear HRx HB2 hb3 hHK l2 hq3 HX hr3 HNo hn3
        go_wp2_with fail
        go_ret2
        exact ⟨HB3.out, .inr ⟨HOK.out, _, rfl⟩⟩
end Go.Proofs.YtakijeooaeflkaaGreatDoor.Fl
