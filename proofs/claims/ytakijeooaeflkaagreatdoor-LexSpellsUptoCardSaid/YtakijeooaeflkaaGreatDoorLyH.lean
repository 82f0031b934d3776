/-
  The lexer: Spell of any token.
-/
import Derived.Test.YtakijeooaeflkaaGreatDoorLyP
import Derived.Test.YtakijeooaeflkaaGreatDoorLxSl
import Derived.Test.YtakijeooaeflkaaGreatDoorLxEq
namespace Go.Proofs.YtakijeooaeflkaaGreatDoor.Fl
open Go.RowKit

set_option maxRecDepth 100000 in
set_option maxHeartbeats 4000000 in
theorem written_out (k : Int) (t : ByteArray) (n q : Int) (w : World) (hk : k < 0 ∨ 16 < k) :
    Calls Tryz.prog 25 #[.agg #[.int .i64 k, .string t, .int .i64 n, .int .i64 q]] w fun e w' => e = .returned (.string ⟨#[]⟩) ∧ Below w.heap.size w w' := by
  have hb1 : Below w.heap.size w (w.alloc (.cells #[.int .i64 k, .string t, .int .i64 n, .int .i64 q] 30)) := (Below.refl _ _).alloc (Nat.le_refl _) _
  have hw1 := heap_alloc_new w (.cells #[.int .i64 k, .string t, .int .i64 n, .int .i64 q] 30)
  have HB1 := Lib.hid hb1
  have n1 : (k == 1) = false := by rw [beq_eq_false_iff_ne]; omega
  have n2 : (k == 2) = false := by rw [beq_eq_false_iff_ne]; omega
  have n3 : (k == 3) = false := by rw [beq_eq_false_iff_ne]; omega
  have n4 : (k == 4) = false := by rw [beq_eq_false_iff_ne]; omega
  have n5 : (k == 5) = false := by rw [beq_eq_false_iff_ne]; omega
  have n6 : (k == 6) = false := by rw [beq_eq_false_iff_ne]; omega
  have n7 : (k == 7) = false := by rw [beq_eq_false_iff_ne]; omega
  have n8 : (k == 8) = false := by rw [beq_eq_false_iff_ne]; omega
  have n9 : (k == 9) = false := by rw [beq_eq_false_iff_ne]; omega
  have n10 : (k == 10) = false := by rw [beq_eq_false_iff_ne]; omega
  have n11 : (k == 11) = false := by rw [beq_eq_false_iff_ne]; omega
  have n12 : (k == 12) = false := by rw [beq_eq_false_iff_ne]; omega
  have n13 : (k == 13) = false := by rw [beq_eq_false_iff_ne]; omega
  have n14 : (k == 14) = false := by rw [beq_eq_false_iff_ne]; omega
  have n15 : (k == 15) = false := by rw [beq_eq_false_iff_ne]; omega
  have n16 : (k == 16) = false := by rw [beq_eq_false_iff_ne]; omega
  clear hb1 hk
  go_enter Tryz.func25, Tryz.ntmps25
  have f1 := cells4L hw1
  have l1 := lt_of_blk hw1
  go_wp2_with fail
  go_ret
  exact ⟨rfl, HB1.out⟩
theorem writtenK_any (k : Int) (t : ByteArray) (n q : Int) (w : World) (ht : t.size ≤ 8192) (h0 : -9223372036854775808 ≤ n) (h1 : n ≤ 9223372036854775807) (hm : MaxAt w) (he : EnvL w) :
    Calls Tryz.prog 25 #[.agg #[.int .i64 k, .string t, .int .i64 n, .int .i64 q]] w fun e w' => e = .returned (.string (mkB (writK k (sb t) n))) ∧ Below w.heap.size w w' := by
  by_cases hk : k < 0 ∨ 16 < k
  · rw [writK_out hk]
    exact written_out k t n q w hk
  · obtain ⟨m, rfl⟩ : ∃ m : Nat, k = m := ⟨k.toNat, by omega⟩
    rw [writK_nat]
    exact written_any m t n q w (by omega) ht h0 h1 hm he
set_option maxRecDepth 100000 in
set_option maxHeartbeats 4000000 in
theorem spellI_any (k : Nat) (t : ByteArray) (n q : Int) (w : World) (hv : TokV k (sb t) n) (hm : MaxAt w) (he : EnvL w) :
    Calls Tryz.prog 10 #[.agg #[.int .i64 (k : Int), .string t, .int .i64 n, .int .i64 q]] w fun e w' => e = .returned (.tuple #[.string (mkB (writL k (sb t) n)), .int .i64 0]) ∧ Below w.heap.size w w' := by
  obtain ⟨hk, hl, hr, hwl⟩ := hv.bounds
  unfold InR at hr
  have hb1 : Below w.heap.size w (w.alloc (.cells #[.int .i64 (k : Int), .string t, .int .i64 n, .int .i64 q] 30)) := (Below.refl _ _).alloc (Nat.le_refl _) _
  have hw1 := heap_alloc_new w (.cells #[.int .i64 (k : Int), .string t, .int .i64 n, .int .i64 q] 30)
  have hwr := written_any k t n q _ hk (by rw [sb_size]; omega) (by omega) (by omega) (hm.below hb1) (he.below hb1)
  have hbk := spell_back hv
  rw [← mkB_size] at hwl hbk
  obtain ⟨W, hW⟩ : ∃ W, mkB (writL k (sb t) n) = W := ⟨_, rfl⟩
  rw [hW] at hwr hwl hbk ⊢
  have hnx : ∀ w', Below w.heap.size w w' → Calls Tryz.prog 26 #[.string W, .int .i64 0] w' (NextPost W (tokR W 0) w') := fun w' hb => next_any W 0 0 w' (by omega) (by omega) (hm.below hb) (fun w2 h2 => he.below (hb.trans (h2.mono hb.size)))
  rw [hbk] at hnx
  have HNx := Lib.hid hnx
  have HB1 := Lib.hid hb1
  have f1 := cells4L hw1
  have l1 : w.heap.size < (w.alloc (.cells #[.int .i64 (k : Int), .string t, .int .i64 n, .int .i64 q] 30)).heap.size := lt_of_blk hw1
  have hes := fun w => eq_same k n q t w
  clear hv hm he hW hbk hnx hb1 hwl hr hl hk
  go_enter Tryz.func10, Tryz.ntmps10
  go_wp2_with fail
  refine hwr.mono ?_
  rintro e w2 ⟨rfl, hb2⟩
  have HB2 := Lib.hid (HB1.out.trans (hb2.mono HB1.out.size))
  have hw2 := (hb2.block _ l1).trans hw1
  have l2 := Nat.lt_of_lt_of_le l1 hb2.size
  clear hwr hb2 f1 l1 hw1 HB1
  go_wp2_with fail
  refine (HNx.out _ HB2.out).mono ?_
  rintro e w3 ⟨hb3, (⟨k3, t3, n3, q3, p3, tb, hr3, hq3, hp3, htb, rfl⟩ | ⟨n3, q3, hr3, _⟩)⟩
  case inr => cases hr3
  simp only [Sum.inl.injEq, Prod.mk.injEq] at hr3
  obtain ⟨rfl, rfl, rfl, rfl, rfl⟩ := hr3
  have htt : tb = t := sb_inj htb
  subst htt
  have HB3 := Lib.hid (HB2.out.trans (hb3.mono HB2.out.size))
  have hw3 := (hb3.block _ l2).trans hw2
  have l3 := Nat.lt_of_lt_of_le l2 hb3.size
  have hb4 : Below w3.heap.size w3 (w3.alloc (.cells #[.int .i64 (k : Int), .string tb, .int .i64 n, .int .i64 q] 30)) := (Below.refl _ _).alloc (Nat.le_refl _) _
  have HB4 := Lib.hid (HB3.out.trans (hb4.mono HB3.out.size))
  have f3 := cells4L hw3
  have f4 := cells4L ((hb4.block _ l3).trans hw3)
  have f5 := cells4L (heap_alloc_new w3 (.cells #[.int .i64 (k : Int), .string tb, .int .i64 n, .int .i64 q] 30))
  have l5 : w3.heap.size < (w3.alloc (.cells #[.int .i64 (k : Int), .string tb, .int .i64 n, .int .i64 q] 30)).heap.size := lt_of_blk (heap_alloc_new w3 _)
  have l4 := Nat.lt_of_lt_of_le l3 hb4.size
  unfold tokV
  clear HNx HB2 HB3 hb3 hb4 hw2 hw3 l2 htb hp3 hq3
  go_wp2_with fail
  go_ret2
  exact ⟨rfl, HB4.out⟩
def PSpPost (k : Int) (t : ByteArray) (n : Int) (w : World) (e : Ending) (w' : World) : Prop :=
  Below w.heap.size w w' ∧ ((okT k (sb t) n ∧ e = .returned (.tuple #[.string (mkB (writK k (sb t) n)), .int .i64 0])) ∨ (¬ okT k (sb t) n ∧ e = .returned (.tuple #[.string ⟨#[]⟩, .int .i64 1])))
theorem tok_neP {k' : Nat} {k n' n q : Int} {tb t : ByteArray} {wd' : List UInt8} (hn : ¬ ((k' : Int) = k ∧ wd' = sb t ∧ n' = n)) (hb : sb tb = wd') : (((k' : Nat) : Int) == k && decide (tb.toList = t.toList) && n' == n && q == q) = false := by
  rw [Bool.eq_false_iff]
  intro h
  simp only [Bool.and_eq_true, beq_iff_eq, decide_eq_true_eq] at h
  refine hn ⟨h.1.1.1, ?_, h.1.2⟩
  have h2 := h.1.1.2
  rw [ByteArray.toList_eq, ByteArray.toList_eq] at h2
  rw [← hb]
  exact h2
set_option maxRecDepth 100000 in
set_option maxHeartbeats 4000000 in
theorem spellA_any (k : Int) (t : ByteArray) (n q : Int) (w : World) (ht : t.size ≤ 5000) (h0 : -9223372036854775808 ≤ n) (h1 : n ≤ 9223372036854775807) (hm : MaxAt w) (he : EnvL w) :
    Calls Tryz.prog 10 #[.agg #[.int .i64 k, .string t, .int .i64 n, .int .i64 q]] w (PSpPost k t n w) := by
  by_cases hok : okT k (sb t) n
  · obtain ⟨m, rfl⟩ : ∃ m : Nat, k = m := ⟨k.toNat, by have := hok.1; omega⟩
    have hv : TokV m (sb t) n := by have := hok.2; rwa [Int.toNat_natCast] at this
    refine (spellI_any m t n q w hv hm he).mono ?_
    rintro e w' ⟨rfl, hb⟩
    exact ⟨hb, .inl ⟨hok, by rw [writK_nat]⟩⟩
  have hb1 : Below w.heap.size w (w.alloc (.cells #[.int .i64 k, .string t, .int .i64 n, .int .i64 q] 30)) := (Below.refl _ _).alloc (Nat.le_refl _) _
  have hw1 := heap_alloc_new w (.cells #[.int .i64 k, .string t, .int .i64 n, .int .i64 q] 30)
  have hwr := writtenK_any k t n q _ (by omega) h0 h1 (hm.below hb1) (he.below hb1)
  have HNo := Lib.hid (okT_iff k (sb t) n hok)
  have HOK := Lib.hid hok
  have hwl : (mkB (writK k (sb t) n)).size ≤ 16777216 := by
    rw [mkB_size]
    unfold writK
    split
    · have hd := dbl_len (sb t)
      rw [sb_len] at hd
      have hq : (quoL (sb t)).length = (dbl (sb t)).length + 2 := by simp [quoL]
      have hi := itoa_len n h0 h1
      have hl := sb_len t
      unfold writL
      repeat' split
      all_goals (try simp only [List.length_cons, List.length_nil])
      all_goals omega
    · simp
  obtain ⟨S, hS⟩ : ∃ S, mkB (writK k (sb t) n) = S := ⟨_, rfl⟩
  rw [hS] at hwr hwl HNo
  have hnx : ∀ w', Below w.heap.size w w' → Calls Tryz.prog 26 #[.string S, .int .i64 0] w' (NextPost S (tokR S 0) w') := fun w' hb => next_any S 0 0 w' (by omega) (by omega) (hm.below hb) (fun w2 h2 => he.below (hb.trans (h2.mono hb.size)))
  generalize hrr : tokR S 0 = rr at *
  have HX := Lib.hid hrr
  have HNx := Lib.hid hnx
  have HB1 := Lib.hid hb1
  have f1 := cells4L hw1
  have l1 : w.heap.size < (w.alloc (.cells #[.int .i64 k, .string t, .int .i64 n, .int .i64 q] 30)).heap.size := lt_of_blk hw1
  clear hm he hS hrr hnx hb1 hwl hok h0 h1
  go_enter Tryz.func10, Tryz.ntmps10
  go_wp2_with fail
  refine hwr.mono ?_
  rintro e w2 ⟨rfl, hb2⟩
  have HB2 := Lib.hid (HB1.out.trans (hb2.mono HB1.out.size))
  have hw2 := (hb2.block _ l1).trans hw1
  have l2 := Nat.lt_of_lt_of_le l1 hb2.size
  clear hwr hb2 f1 l1 hw1 HB1
  go_wp2_with fail
  refine (HNx.out _ HB2.out).mono ?_
  rintro e w3 ⟨hb3, (⟨k3, t3, n3, q3, p3, tb, hr3, hq3, hp3, htb, rfl⟩ | ⟨n3, q3, hr3, hq3, rfl⟩)⟩
  · have hes := fun w => eq_tok (k3 : Int) k n3 n q q tb t w
    rw [tok_neP (HNo.out k3 t3 n3 q3 p3 hr3) htb] at hes
    have HB3 := Lib.hid (HB2.out.trans (hb3.mono HB2.out.size))
    have hw3 := (hb3.block _ l2).trans hw2
    have l3 := Nat.lt_of_lt_of_le l2 hb3.size
    have hb4 : Below w3.heap.size w3 (w3.alloc (.cells #[.int .i64 (k3 : Int), .string tb, .int .i64 n3, .int .i64 q] 30)) := (Below.refl _ _).alloc (Nat.le_refl _) _
    have HB4 := Lib.hid (HB3.out.trans (hb4.mono HB3.out.size))
    have f3 := cells4L hw3
    have f4 := cells4L ((hb4.block _ l3).trans hw3)
    have f5 := cells4L (heap_alloc_new w3 (.cells #[.int .i64 (k3 : Int), .string tb, .int .i64 n3, .int .i64 q] 30))
    have l5 : w3.heap.size < (w3.alloc (.cells #[.int .i64 (k3 : Int), .string tb, .int .i64 n3, .int .i64 q] 30)).heap.size := lt_of_blk (heap_alloc_new w3 _)
    have l4 := Nat.lt_of_lt_of_le l3 hb4.size
    unfold tokV
    clear HNx HB2 HB3 hb3 hb4 hw2 hw3 l2 htb hp3 hq3 hr3 HNo HX
    go_wp2_with fail
    go_ret2
    exact ⟨HB4.out, .inr ⟨HOK.out, rfl⟩⟩
  · have hn3 := tokR_err (HX.out.trans hr3)
    have hnb : (n3 == 0) = false := by rw [beq_eq_false_iff_ne]; exact hn3
    have hnb2 : (n3 != 0) = true := by rw [bne_iff_ne]; exact hn3
    have HB3 := Lib.hid (HB2.out.trans (hb3.mono HB2.out.size))
    have hw3 := (hb3.block _ l2).trans hw2
    have l3 := Nat.lt_of_lt_of_le l2 hb3.size
    have hb4 : Below w3.heap.size w3 (w3.alloc (.cells #[.int .i64 0, .string ⟨#[]⟩, .int .i64 0, .int .i64 q] 30)) := (Below.refl _ _).alloc (Nat.le_refl _) _
    have HB4 := Lib.hid (HB3.out.trans (hb4.mono HB3.out.size))
    have f3 := cells4L hw3
    have f4 := cells4L ((hb4.block _ l3).trans hw3)
    have f5 := cells4L (heap_alloc_new w3 (.cells #[.int .i64 0, .string ⟨#[]⟩, .int .i64 0, .int .i64 q] 30))
    have l5 : w3.heap.size < (w3.alloc (.cells #[.int .i64 0, .string ⟨#[]⟩, .int .i64 0, .int .i64 q] 30)).heap.size := lt_of_blk (heap_alloc_new w3 _)
    have l4 := Nat.lt_of_lt_of_le l3 hb4.size
    unfold tokV
    clear HNx HB2 HB3 hb3 hb4 hw2 hw3 l2 hq3 hr3 HNo HX hn3
    go_wp2_with fail
    go_ret2
    exact ⟨HB4.out, .inr ⟨HOK.out, rfl⟩⟩
end Go.Proofs.YtakijeooaeflkaaGreatDoor.Fl
