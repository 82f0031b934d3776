/-
  The lexer: All.
-/
import Derived.Test.YtakijeooaeflkaaGreatDoorLxL
namespace Go.Proofs.YtakijeooaeflkaaGreatDoor.Fl
open Go.RowKit

set_option maxRecDepth 100000 in
set_option maxHeartbeats 4000000 in
theorem all_any (s : ByteArray) (w : World) (hs : s.size ≤ 16777216) (hm : MaxAt w) (hE : ∀ w', Below w.heap.size w w' → EnvL w') :
    Calls Tryz.prog 13 #[.string s] w (AllPost s (allW s 0) w) := by
  have HE := Lib.hid hE
  have hm0 : 0 < w.heap.size := by
    obtain ⟨m, hm⟩ := hm
    exact World.block_lt_of_cell? _ _ hm
  have HM := Lib.hid (fun w' (hb : Below w.heap.size w w') => show MaxAt w' from by
    obtain ⟨m, hm⟩ := hm
    exact ⟨m, (World.cell?_of_block (a := ⟨0, 0, none⟩) (hb.block 0 hm0)).trans hm⟩)
  clear hE hm hm0
  go_enter Tryz.func13, Tryz.ntmps13
  obtain ⟨r, hr⟩ : ∃ r, allW s 0 = r := ⟨_, rfl⟩
  rw [hr]
  have HR := Lib.hid hr
  clear hr
  go_wp2_with fail
  go_loopw [5, 6] (fun v v' wr => ∃ (p : Nat) (A : Option Addr) (c : Nat) (ts : List Tok), p ≤ s.size ∧ v = .slice A ts.length c ∧ v' = .int .i64 (p : Int) ∧ Hid (ts.length ≤ p) ∧ Hid (preW ts (allW s p) = r) ∧ Hid (OwnK wr w.heap.size (.slice A ts.length c) ts) ∧ Hid (Below w.heap.size w wr)) (fun _ v' _ => s.size + 1 - (intOf v').toNat)
  case atStart => exact ⟨0, none, 0, [], Nat.zero_le _, rfl, rfl, Lib.hid (Nat.le_refl _), Lib.hid (by rw [HR.out]; cases r <;> rfl), Lib.hid (World.ownsRow_nil _ _ _ _), Lib.hid (Below.refl _ _)⟩
  case round =>
    obtain ⟨p, A, c, ts, hp, rfl, rfl, HL, HW, HO, HB⟩ := hrel
    have hm := HM.out _ HB.out
    have hn := next_any s (p : Int) p wr hs (by omega) hm (fun w' hb => HE.out w' (HB.out.trans (hb.mono HB.out.size)))
    clear hm
    go_wp2_with fail
    refine hn.mono ?_
    rintro e w1 ⟨hb1, (⟨k, t, n, q, p', tb, hr, hq, hp', htb, rfl⟩ | ⟨n, q, hr, hq, rfl⟩)⟩
    case inr =>
      have HW2 : Hid (r = .inr (n, q)) := Lib.hid (by rw [← HW.out, allW_no hr]; rfl)
      have HB2 := Lib.hid (HB.out.trans (hb1.mono HB.out.size))
      have hn0 := tokR_err hr
      clear hn hr hb1 HW HO HB
      unfold tokV
      go_wp2_with fail
      go_ret3
      exact ⟨HB2.out.alloc HB2.out.size _, .inr ⟨n, q, HW2.out, hq, rfl⟩⟩
    have htb2 := sb_back htb
    subst htb2
    have HRt := Lib.hid hr
    have HO1 := Lib.hid (HO.out.below hb1)
    have HB1 := Lib.hid (HB.out.trans (hb1.mono HB.out.size))
    have HQ := Lib.hid (And.intro hq hp')
    clear hn hr htb hb1 HO HB hq hp'
    unfold tokV
    go_upto_region 6 with fail
    have hlt1 : ∀ j, (Value.slice A ts.length c).ownBlock = some j → j < w1.heap.size := fun j hj => (World.ownsRow.lt HO1.out j hj).2
    have hw2 := heap_alloc_new w1 (.cells #[.int .i64 (k : Int), .string ⟨t.toArray⟩, .int .i64 n, .int .i64 (q : Int)] 30)
    have hb2 : Below w1.heap.size w1 (w1.alloc (.cells #[.int .i64 (k : Int), .string ⟨t.toArray⟩, .int .i64 n, .int .i64 (q : Int)] 30)) := (Below.refl _ _).alloc (Nat.le_refl _) _
    generalize hw : w1.alloc (.cells #[.int .i64 (k : Int), .string ⟨t.toArray⟩, .int .i64 n, .int .i64 (q : Int)] 30) = w2 at *
    clear hw
    have f2 := cells4L hw2
    have l2 := lt_of_blk hw2
    have hb3 : Below w2.heap.size w2 (w2.alloc (.cells #[.int .i64 (k : Int), .string ⟨t.toArray⟩, .int .i64 n, .int .i64 (q : Int)] 30)) := (Below.refl _ _).alloc (Nat.le_refl _) _
    have HO3 := Lib.hid ((HO1.out.below hb2).below hb3)
    have HR3 := Lib.hid (rd_oneK w2 (k, t, n, q))
    have HB3 := Lib.hid ((HB1.out.trans (hb2.mono HB1.out.size)).trans (hb3.mono (Nat.le_trans HB1.out.size hb2.size)))
    have HX3 := Lib.hid ((hb3.block _ l2).trans hw2)
    have HL3 := Lib.hid hlt1
    have hl9 : ts.length ≤ 100000000 := by have := HL.out; omega
    clear hlt1 hw2 hb2 hb3 HO1 HB1
    go_wp2_with (at_builtin; refine wpList_append_k (base := w.heap.size) (v := .slice A ts.length c) (news := [(k, t, n, q)]) rfl _ _ rfl rfl rfl HO3.out HR3.out (fun h => by cases h) hl9 (by simp) HB3.out.size ?_; intro A4 t4 c4 w4 HT4 HO4 HB4; have HX4 := Lib.hid ((HB4.out.2 w1.heap.size (lt_of_blk HX3.out) (fun e => Nat.lt_irrefl _ (HL3.out _ e.symm))).trans HX3.out); have f4 := cells4L HX4.out)
    · rename_i hk
      have hk0 : k = 0 := by simpa using hk
      subst hk0
      have HW2 : Hid (r = .inl t4) := Lib.hid (by rw [← HW.out, allW_end HRt.out, HT4.out]; rfl)
      clear HT4 hk
      go_ret3
      exact ⟨HB3.out.trans HB4.out.1, .inl ⟨t4, A4, c4, HW2.out, rfl, HO4.out⟩⟩
    · rename_i hk
      have hk0 : k ≠ 0 := by simpa using hk
      have hgo := allW_go hp HQ.out.2 HRt.out hk0 ts
      have HW2 := Lib.hid (hgo.2.symm.trans HW.out)
      have hlt := hgo.1
      have HL4 : Hid (t4.length ≤ p') := Lib.hid (by have := HL.out; rw [HT4.out, List.length_append]; simp; omega)
      have HB5 := Lib.hid (HB3.out.trans HB4.out.1)
      have hp2 := HQ.out.2
      have HW5 : Hid (preW t4 (allW s p') = r) := Lib.hid (by rw [HT4.out]; exact HW2.out)
      clear hgo hk HT4 HW2 HB3 HB4 HX3 HX4 HO3 HR3 HW HL HRt f2 f4 l2
      go_roundw
      case rel => exact ⟨p', A4, c4, t4, hp2, rfl, rfl, HL4, HW5, HO4, HB5⟩
      case measure => simp [intOf]; omega
end Go.Proofs.YtakijeooaeflkaaGreatDoor.Fl
