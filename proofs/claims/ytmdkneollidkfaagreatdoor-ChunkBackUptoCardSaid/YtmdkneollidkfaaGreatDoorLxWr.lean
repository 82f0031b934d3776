/-
  The lexer: written.
-/
import Derived.Test.YtmdkneollidkfaaGreatDoorLxSp
import Derived.Lib.AppendIntMem
namespace Go.Proofs.YtmdkneollidkfaaGreatDoor.Fl
open Go.RowKit

theorem textL_any (n : Int) (w : World) (h0 : -9223372036854775808 ≤ n) (h1 : n ≤ 9223372036854775807) (he : EnvL w) :
    Calls Tryz.prog 66 #[.int .i64 n] w fun e w' => e = .returned (.string ⟨(Lib.itoa n).toArray⟩) ∧ Below w.heap.size w w' := by
  have htab := he.tab
  clear he
  go_enter Tryz.func66, Tryz.ntmps66
  go_wp2_with (go_at_call 99; refine (Tryz.strconv_FormatInt_10 _ h0 h1 _ htab).mono ?_; rintro e w' ⟨rfl, k, os, rfl⟩)
  go_ret
  exact ⟨rfl, Lib.below_grow _ _ (Nat.le_refl _) _ _⟩
theorem dbl_len : ∀ l : List UInt8, (dbl l).length ≤ 2 * l.length
  | [] => Nat.le_refl _
  | c :: l => by
    have := dbl_len l
    rw [dbl]
    split <;> simp only [List.length_cons] <;> omega
theorem quote_any (t : ByteArray) (w : World) (ht : t.size ≤ 4194304) (hm : MaxAt w) :
    Calls Tryz.prog 204 #[.string t] w fun e w' => e = .returned (.string (mkB (quoL (sb t)))) ∧ Below w.heap.size w w' := by
  have hd := dbl_any t w (by omega) hm
  clear hm
  go_enter Tryz.func204, Tryz.ntmps204
  go_wp2_with fail
  refine hd.mono ?_
  rintro e w' ⟨rfl, hb⟩
  have hl := dbl_len (sb t)
  rw [sb_len] at hl
  have hz : ((⟨(dbl (sb t)).toArray⟩ : ByteArray).size : Int) ≤ 8388608 := by rw [mkL_size]; omega
  go_wp2_with fail
  go_ret
  refine ⟨?_, hb⟩
  congr 2
theorem writ_c (wd : List UInt8) (n : Int) : writL 0 wd n = [] ∧ writL 1 wd n = wd ∧ writL 2 wd n = wd ∧ writL 6 wd n = wd ∧ writL 7 wd n = [58, 61] ∧ writL 8 wd n = [94] ∧ writL 9 wd n = [46] ∧ writL 10 wd n = [59] ∧ writL 11 wd n = [40] ∧ writL 12 wd n = [41] ∧ writL 13 wd n = [91] ∧ writL 14 wd n = [93] ∧ writL 15 wd n = [35, 40] ∧ writL 16 wd n = [58] := by
  refine ⟨?_, ?_, ?_, ?_, ?_, ?_, ?_, ?_, ?_, ?_, ?_, ?_, ?_, ?_⟩ <;> simp [writL, marksL]
set_option maxRecDepth 100000 in
set_option maxHeartbeats 4000000 in
theorem written_any (k : Nat) (t : ByteArray) (n q : Int) (w : World) (hk : k ≤ 16) (ht : t.size ≤ 8192) (h0 : -9223372036854775808 ≤ n) (h1 : n ≤ 9223372036854775807) (hm : MaxAt w) (he : EnvL w) :
    Calls Tryz.prog 189 #[.agg #[.int .i64 (k : Int), .string t, .int .i64 n, .int .i64 q]] w fun e w' => e = .returned (.string (mkB (writL k (sb t) n))) ∧ Below w.heap.size w w' := by
  have hb1 : Below w.heap.size w (w.alloc (.cells #[.int .i64 (k : Int), .string t, .int .i64 n, .int .i64 q] 143)) := (Below.refl _ _).alloc (Nat.le_refl _) _
  have hm1 := hm.below hb1
  have he1 := he.below hb1
  have hw1 := heap_alloc_new w (.cells #[.int .i64 (k : Int), .string t, .int .i64 n, .int .i64 q] 143)
  have htx := textL_any n _ h0 h1 he1
  have hqu := quote_any t _ (by omega) hm1
  have har := arity_any t (w.alloc (.cells #[.int .i64 (k : Int), .string t, .int .i64 n, .int .i64 q] 143)) (by omega)
  have hql : ((mkB (quoL (sb t))).size : Int) ≤ 16386 := by
    have hl := dbl_len (sb t)
    rw [sb_len] at hl
    rw [mkB_size]
    simp only [quoL, List.length_cons, List.length_append, List.length_nil]
    omega
  have hqw : ∀ w', Below w.heap.size w w' → Calls Tryz.prog 204 #[.string t] w' fun e w'' => e = .returned (.string (mkB (quoL (sb t)))) ∧ Below w'.heap.size w' w'' := fun w' hb => quote_any t w' (by omega) (hm.below hb)
  obtain ⟨Q, hQ⟩ : ∃ Q, mkB (quoL (sb t)) = Q := ⟨_, rfl⟩
  rw [hQ] at hqu hqw hql
  have HQ := Lib.hid hQ
  clear hQ
  have HQw := Lib.hid hqw
  have HB1 := Lib.hid hb1
  have htt : (t.size : Int) ≤ 8192 := by omega
  have hmk : mkB (sb t) = t := mk_sb t
  clear hm he hm1 he1 h0 h1 hqw hb1
  go_enter Tryz.func189, Tryz.ntmps189
  have f1 := cells4L hw1
  have l1 := lt_of_blk hw1
  obtain rfl | rfl | rfl | rfl | rfl | rfl | rfl | rfl | rfl | rfl | rfl | rfl | rfl | rfl | rfl | rfl | rfl : k = 0 ∨ k = 1 ∨ k = 2 ∨ k = 3 ∨ k = 4 ∨ k = 5 ∨ k = 6 ∨ k = 7 ∨ k = 8 ∨ k = 9 ∨ k = 10 ∨ k = 11 ∨ k = 12 ∨ k = 13 ∨ k = 14 ∨ k = 15 ∨ k = 16 := by omega
  case inr.inr.inr.inl =>
    go_wp2_with fail
    refine htx.mono ?_
    rintro e w2 ⟨rfl, hb2⟩
    have HB2 := Lib.hid (HB1.out.trans (hb2.mono HB1.out.size))
    go_wp2_with fail
    go_ret
    exact ⟨rfl, HB2.out⟩
  case inr.inr.inr.inr.inl =>
    go_wp2_with fail
    refine hqu.mono ?_
    rintro e w2 ⟨rfl, hb2⟩
    have HB2 := Lib.hid (HB1.out.trans (hb2.mono HB1.out.size))
    go_wp2_with fail
    go_ret
    rw [show writL 4 (sb t) n = quoL (sb t) from rfl, HQ.out]
    exact ⟨rfl, HB2.out⟩
  case inr.inr.inr.inr.inr.inl =>
    have HW : Hid (writL 5 (sb t) n = if arityL t < 0 then 35 :: quoL (sb t) else 35 :: sb t) := Lib.hid (by
      show (if arityL (mkB (sb t)) < 0 then 35 :: quoL (sb t) else 35 :: sb t) = _
      rw [hmk])
    go_wp2_with fail
    refine har.mono ?_
    rintro e w2 ⟨rfl, hb2⟩
    have HB2 := Lib.hid (HB1.out.trans (hb2.mono HB1.out.size))
    have f2 := cells4L ((hb2.block _ l1).trans hw1)
    have l2 := Nat.lt_of_lt_of_le l1 hb2.size
    have hq2 := HQw.out _ HB2.out
    clear har hb2 hqu htx
    by_cases hneg : arityL t < 0
    · go_wp2_with fail
      refine hq2.mono ?_
      rintro e w3 ⟨rfl, hb3⟩
      have HB3 := Lib.hid (HB2.out.trans (hb3.mono HB2.out.size))
      go_wp2_with fail
      go_ret
      rw [HW.out, if_pos hneg, ← HQ.out]
      refine ⟨?_, HB3.out⟩
      congr 2
    · go_wp2_with fail
      go_ret
      rw [HW.out, if_neg (Int.not_lt.2 hneg)]
      refine ⟨?_, HB2.out⟩
      congr 2
  all_goals
    go_wp2_with fail
    go_ret
    refine ⟨?_, HB1.out⟩
    refine congrArg (fun x => Ending.returned (Value.string x)) ?_
    obtain ⟨w0, w1, w2, w6, w7, w8, w9, w10, w11, w12, w13, w14, w15, w16⟩ := writ_c (sb t) n
    first
      | (rw [w0]; done) | (rw [w1]; done) | (rw [w2]; done) | (rw [w6]; done) | (rw [w7]; done) | (rw [w8]; decide +kernel) | (rw [w9]; decide +kernel) | (rw [w10]; decide +kernel) | (rw [w11]; decide +kernel) | (rw [w12]; decide +kernel) | (rw [w13]; decide +kernel) | (rw [w14]; decide +kernel) | (rw [w15]; done) | (rw [w16]; done)
end Go.Proofs.YtmdkneollidkfaaGreatDoor.Fl
