/-
  The lexer: Spell of what is a token.
-/
import Derived.Test.YtakijeooaeflkaaGreatDoorLxWr
import Derived.Test.YtakijeooaeflkaaGreatDoorLxJc
namespace Go.Proofs.YtakijeooaeflkaaGreatDoor.Fl
open Go.RowKit

theorem TokV.bounds {k : Nat} {wd : List UInt8} {n : Int} (h : TokV k wd n) : k ≤ 16 ∧ wd.length ≤ 4096 ∧ InR n ∧ (writL k wd n).length ≤ 8196 := by
  have hd := dbl_len wd
  have hq : (quoL wd).length = (dbl wd).length + 2 := by simp [quoL]
  rcases h with ⟨rfl, rfl, hl, _⟩ | ⟨rfl, rfl, hl, _⟩ | ⟨rfl, rfl, hr, _⟩ | ⟨rfl, rfl, hl⟩ | ⟨rfl, rfl, hl⟩ | ⟨rfl, rfl, ho⟩ | ⟨hk, rfl, rfl⟩
  · exact ⟨by omega, by omega, by unfold InR; omega, by show wd.length ≤ _; omega⟩
  · exact ⟨by omega, by omega, by unfold InR; omega, by show wd.length ≤ _; omega⟩
  · refine ⟨by omega, by simp, hr, ?_⟩
    show (Lib.itoa n).length ≤ _
    unfold InR at hr
    have := itoa_len n (by omega) (by omega)
    omega
  · exact ⟨by omega, by omega, by unfold InR; omega, by show (quoL wd).length ≤ _; omega⟩
  · refine ⟨by omega, by omega, by unfold InR; omega, ?_⟩
    show (if arityL (mkB wd) < 0 then 35 :: quoL wd else 35 :: wd).length ≤ _
    split <;> simp only [List.length_cons] <;> omega
  · obtain ⟨c, r, rfl, hr, _⟩ := op_list ho
    have hl : (c :: r).length ≤ 2 := by rcases hr with rfl | ⟨d, rfl⟩ <;> simp
    exact ⟨by omega, by omega, by unfold InR; omega, by show (c :: r).length ≤ _; omega⟩
  · refine ⟨by omega, by simp, by unfold InR; omega, ?_⟩
    rcases hk with rfl | ⟨h7, h16⟩
    · decide
    · unfold writL
      repeat' split
      all_goals first
        | omega
        | simp
set_option maxRecDepth 100000 in
set_option maxHeartbeats 4000000 in
theorem spell_any (k : Nat) (t : ByteArray) (n : Int) (q : Nat) (w : World) (hv : TokV k (sb t) n) (hm : MaxAt w) (he : EnvL w) :
    Calls Tryz.prog 10 #[.agg #[.int .i64 (k : Int), .string t, .int .i64 n, .int .i64 (q : Int)]] w fun e w' => e = .returned (.tuple #[.string (mkB (writL k (sb t) n)), .int .i64 0]) ∧ Below w.heap.size w w' := by
  obtain ⟨hk, hl, hr, hwl⟩ := hv.bounds
  unfold InR at hr
  have hb1 : Below w.heap.size w (w.alloc (.cells #[.int .i64 (k : Int), .string t, .int .i64 n, .int .i64 (q : Int)] 30)) := (Below.refl _ _).alloc (Nat.le_refl _) _
  have hw1 := heap_alloc_new w (.cells #[.int .i64 (k : Int), .string t, .int .i64 n, .int .i64 (q : Int)] 30)
  have hwr := written_any k t n (q : Int) _ hk (by rw [sb_size]; omega) (by omega) (by omega) (hm.below hb1) (he.below hb1)
  have hbk := spell_back hv
  rw [← mkB_size] at hwl hbk
  obtain ⟨W, hW⟩ : ∃ W, mkB (writL k (sb t) n) = W := ⟨_, rfl⟩
  rw [hW] at hwr hwl hbk ⊢
  have hnx : ∀ w', Below w.heap.size w w' → Calls Tryz.prog 26 #[.string W, .int .i64 0] w' (NextPost W (tokR W 0) w') := fun w' hb => next_any W 0 0 w' (by omega) (by omega) (hm.below hb) (fun w2 h2 => he.below (hb.trans (h2.mono hb.size)))
  rw [hbk] at hnx
  have HNx := Lib.hid hnx
  have HB1 := Lib.hid hb1
  have f1 := cells4L hw1
  have l1 : w.heap.size < (w.alloc (.cells #[.int .i64 (k : Int), .string t, .int .i64 n, .int .i64 (q : Int)] 30)).heap.size := lt_of_blk hw1
  have hes := fun w => eq_same k n q t w
  clear hv hm he hW hbk hnx hb1 hwl hr hl hk
  go_enter Tryz.func10, Tryz.ntmps10
  go_wp2_with fail
  refine hwr.mono ?_
  rintro e w2 ⟨rfl, hb2⟩
  have HB2 := Lib.hid (HB1.out.trans (hb2.mono HB1.out.size))
  have hw2 := (hb2.block _ l1).trans hw1
  have l2 := Nat.lt_of_lt_of_le l1 hb2.size
  clear hwr hb2 f1 l1 hw1 HB1
  go_wp2_with fail
  refine (HNx.out _ HB2.out).mono ?_
  rintro e w3 ⟨hb3, (⟨k3, t3, n3, q3, p3, tb, hr3, hq3, hp3, htb, rfl⟩ | ⟨n3, q3, hr3, _⟩)⟩
  case inr => cases hr3
  simp only [Sum.inl.injEq, Prod.mk.injEq] at hr3
  obtain ⟨rfl, rfl, rfl, rfl, rfl⟩ := hr3
  have htt : tb = t := sb_inj htb
  subst htt
  have HB3 := Lib.hid (HB2.out.trans (hb3.mono HB2.out.size))
  have hw3 := (hb3.block _ l2).trans hw2
  have l3 := Nat.lt_of_lt_of_le l2 hb3.size
  have hb4 : Below w3.heap.size w3 (w3.alloc (.cells #[.int .i64 (k : Int), .string tb, .int .i64 n, .int .i64 (q : Int)] 30)) := (Below.refl _ _).alloc (Nat.le_refl _) _
  have HB4 := Lib.hid (HB3.out.trans (hb4.mono HB3.out.size))
  have f3 := cells4L hw3
  have f4 := cells4L ((hb4.block _ l3).trans hw3)
  have f5 := cells4L (heap_alloc_new w3 (.cells #[.int .i64 (k : Int), .string tb, .int .i64 n, .int .i64 (q : Int)] 30))
  have l5 : w3.heap.size < (w3.alloc (.cells #[.int .i64 (k : Int), .string tb, .int .i64 n, .int .i64 (q : Int)] 30)).heap.size := lt_of_blk (heap_alloc_new w3 _)
  have l4 := Nat.lt_of_lt_of_le l3 hb4.size
  unfold tokV
  clear HNx HB2 HB3 hb3 hb4 hw2 hw3 l2 htb hp3 hq3
  go_wp2_with fail
  go_ret2
  exact ⟨rfl, HB4.out⟩
end Go.Proofs.YtakijeooaeflkaaGreatDoor.Fl
