/-
  LexPlaces: whatever the text.
-/
import Derived.Test.YtijmigcgndlfcaaDoorLxPl
namespace Go.Proofs.YtijmigcgndlfcaaDoor.Fl
open Go.RowKit

set_option maxRecDepth 100000 in
set_option maxHeartbeats 8000000 in
theorem lexPlaces_ok (a : ByteArray) (w : World) (hm : MaxAt w) (hE : ∀ w', Below w.heap.size w w' → EnvL w') (x : List Tok) (hx : allW (shortB a 2000) 0 = .inl x) :
    Calls Tryd.prog 4 #[.string a] w fun e w' => e = .returned (.bool true) ∧ Below w.heap.size w w' := by
  have haw := awake9_any w hm hE
  have hsa : ∀ w, Calls Tryd.prog 8 #[.string a, .int .i64 2000] w fun e w' => e = .returned (.string (shortB a 2000)) ∧ w' = w := fun w => short9_any a 2000 w
  have hla := shortB_size a 2000
  generalize shortB a 2000 = s at *
  have HA := Lib.hid (fun w' (h : Below w.heap.size w w') => all_any s w' (by omega) (max_below hm h) (fun w2 h2 => hE w2 (h.trans (h2.mono h.size))))
  have HSp := Lib.hid (fun (k : Nat) (t : ByteArray) (n : Int) (q : Nat) (hv : TokV k (sb t) n) w' (h : Below w.heap.size w w') => spell_any k t n q w' hv (max_below hm h) (hE w' h))
  have HX := Lib.hid hx
  have HP := Lib.hid (allW_pl (Nat.zero_le _) hx (Nat.le_refl 0))
  have hxl := allW_len (Nat.zero_le _) hx
  have hlx : x.length ≤ 2001 := by omega
  clear hm hE hx hxl
  go_enter Tryd.func4, Tryd.ntmps4
  go_wp2_with fail
  refine haw.mono ?_
  rintro e w1 ⟨rfl, hb1⟩
  have HB1 := Lib.hid hb1
  clear haw hb1
  go_wp2_with fail
  refine (hsa w1).mono ?_
  rintro e w' ⟨rfl, rfl⟩
  go_wp2_with fail
  refine (HA.out _ HB1.out).mono ?_
  rintro e w2 ⟨hb2, (⟨l, A, c, hl, rfl, ho2⟩ | ⟨n2, q2, hl, _⟩)⟩
  case inr => rw [HX.out] at hl; cases hl
  rw [HX.out] at hl
  injection hl with hl
  subst hl
  have HB2 := Lib.hid (HB1.out.trans (hb2.mono HB1.out.size))
  have HR2 := Lib.hid (ownK_rd ho2)
  clear hb2 ho2 HA HX HB1 hsa
  go_wp2_with fail
  go_loopw [6, 26] (fun v6 v wr => ∃ (k last : Nat), k ≤ x.length ∧ v6 = .int .i64 (last : Int) ∧ v = .int .i64 (k : Int) ∧ Hid (PlA s last (x.drop k)) ∧ Hid (Rd wr w2.heap.size A (ct x)) ∧ Hid (Below w.heap.size w wr) ∧ Hid (w2.heap.size ≤ wr.heap.size)) (fun _ v _ => x.length - (intOf v).toNat)
  case atStart => exact ⟨0, 0, Nat.zero_le _, rfl, rfl, HP, HR2, HB2, Lib.hid (Nat.le_refl _)⟩
  case round =>
    clear HP HR2 HB2
    obtain ⟨k, last, hk, rfl, rfl, HPl, HRa, HB, HS⟩ := hrel
    by_cases hkl : k < x.length
    · obtain ⟨kd, wd, nm, at_, he⟩ : ∃ kd wd nm at_, x[k] = (kd, wd, nm, at_) := ⟨_, _, _, _, rfl⟩
      obtain ⟨b1, o1, rfl, hb1, c0, c1, c2, c3⟩ := rdK_at HRa.out hkl he
      have hpl := HPl.out
      rw [List.drop_eq_getElem_cons hkl, he] at hpl
      obtain ⟨hv, p1, p2, p3, p4, p5⟩ := hpl
      have hb1w : b1 < wr.heap.size := by have := HS.out; omega
      have hnb : Below wr.heap.size wr (wr.alloc (.cells #[.int .i64 (kd : Int), .string ⟨wd.toArray⟩, .int .i64 nm, .int .i64 (at_ : Int)] 30)) := (Below.refl _ _).alloc (Nat.le_refl _) _
      have hw2 := heap_alloc_new wr (.cells #[.int .i64 (kd : Int), .string ⟨wd.toArray⟩, .int .i64 nm, .int .i64 (at_ : Int)] 30)
      have HBn := Lib.hid (HB.out.trans (hnb.mono HB.out.size))
      have HRn := Lib.hid (HRa.out.below hnb HS.out)
      have HSn := Lib.hid (Nat.le_trans HS.out hnb.size)
      have f1 := cells4L hw2
      have l1 : wr.heap.size < (wr.alloc (.cells #[.int .i64 (kd : Int), .string ⟨wd.toArray⟩, .int .i64 nm, .int .i64 (at_ : Int)] 30)).heap.size := lt_of_blk hw2
      obtain ⟨W, hW⟩ : ∃ W, mkB (writL kd wd nm) = W := ⟨_, rfl⟩
      have hWs : W.size = (writL kd wd nm).length := by rw [← hW, mkB_size]
      have hsp := HSp.out kd ⟨wd.toArray⟩ nm at_ (by rw [sb_mk]; exact hv) _ HBn.out
      rw [sb_mk, hW] at hsp
      have e1 : ¬ ((at_ : Int) < (last : Int)) := by have : last ≤ at_ := p1; omega
      have e2 : ¬ ((s.size : Int) < (at_ : Int)) := by have : at_ ≤ s.size := p2; omega
      have e5 : at_ ≤ 2000 := by have : at_ ≤ s.size := p2; omega
      have HP5 := Lib.hid p5
      have HP3 := Lib.hid p3
      have HP4 := Lib.hid p4
      have HWl := Lib.hid hWs
      have HWm := Lib.hid hW
      have hwb : (writL kd wd nm).length ≤ 8196 := hv.bounds.2.2.2
      have hWb : W.size ≤ 8196 := by omega
      have hy : ((k : Int) == (x.length : Int) - 1) = ((kd : Int) == 0) := by
        have h3 := HP3.out
        rw [List.drop_eq_nil_iff] at h3
        change kd = 0 ↔ _ at h3
        refine Bool.eq_iff_iff.2 ?_
        rw [beq_iff_eq, beq_iff_eq]
        constructor
        · intro h; have := h3.2 (by omega); omega
        · intro h; have := h3.1 (by omega); omega
      obtain ⟨be, hbe⟩ : ∃ be, ((kd : Int) == 0) = be := ⟨_, rfl⟩
      rw [hbe] at hy
      clear hv p1 p2 p3 p4 p5 hnb HPl hW hWs hwb
      by_cases hpt : plainT (kd, wd, nm, at_) = true
      · have hp4 := HP4.out hpt
        have hp5 := HP5.out
        unfold lastT at hp5
        rw [if_pos hpt] at hp5
        change midL s at_ (at_ + (writL kd wd nm).length) = writL kd wd nm ∧ at_ + (writL kd wd nm).length ≤ s.size at hp4
        change PlA s (at_ + (writL kd wd nm).length) (x.drop (k + 1)) at hp5
        rw [← HWl.out] at hp4 hp5
        have HP6 := Lib.hid hp5
        have hext : s.extract at_ (at_ + W.size) = W := sb_inj (by rw [mid_eq, hp4.1, ← HWm.out, sb_mk])
        have e3 : ¬ ((s.size : Int) < (at_ : Int) + (W.size : Int)) := by omega
        have e6 : at_ + W.size ≤ s.size := hp4.2
        unfold plainT at hpt
        simp only [Bool.and_eq_true, bne_iff_ne] at hpt
        have h3 : ((kd : Int) != 3) = true := by rw [bne_iff_ne]; have := hpt.1; omega
        have h5 : ((kd : Int) != 5) = true := by rw [bne_iff_ne]; have := hpt.2; omega
        clear hp4 hp5 HP4 HP5 hpt HP3
        go_wp2_with fail
        refine hsp.mono ?_
        rintro e w3 ⟨rfl, hb3⟩
        have HB3 := Lib.hid (HBn.out.trans (hb3.mono HBn.out.size))
        have HR3 := Lib.hid (HRn.out.below hb3 HSn.out)
        have HS3 := Lib.hid (Nat.le_trans HSn.out hb3.size)
        have f3 := cells4L ((hb3.block _ l1).trans hw2)
        have l3 := Nat.lt_of_lt_of_le l1 hb3.size
        clear hb3 hsp hw2 f1 l1 c0 c1 c2 c3
        go_wp2_with fail
        go_roundw
        case rel => exact ⟨k + 1, at_ + W.size, hkl, by rw [Int.natCast_add], rfl, HP6, HR3, HB3, HS3⟩
        case measure => simp [intOf]; omega
      · have hp5 := HP5.out
        unfold lastT at hp5
        rw [if_neg hpt] at hp5
        have HP6 := Lib.hid (show PlA s (at_ + 1) (x.drop (k + 1)) from hp5)
        have hkk : kd = 3 ∨ kd = 5 := by
          unfold plainT at hpt
          simp only [Bool.and_eq_true, bne_iff_ne] at hpt
          omega
        clear hp5 HP4 HP5 hpt HP3
        rcases hkk with hkk | hkk
        · have h3 : ((kd : Int) != 3) = false := by rw [hkk]; rfl
          clear hkk
          go_wp2_with fail
          refine hsp.mono ?_
          rintro e w3 ⟨rfl, hb3⟩
          have HB3 := Lib.hid (HBn.out.trans (hb3.mono HBn.out.size))
          have HR3 := Lib.hid (HRn.out.below hb3 HSn.out)
          have HS3 := Lib.hid (Nat.le_trans HSn.out hb3.size)
          have f3 := cells4L ((hb3.block _ l1).trans hw2)
          have l3 := Nat.lt_of_lt_of_le l1 hb3.size
          clear hb3 hsp hw2 f1 l1 c0 c1 c2 c3
          go_wp2_with fail
          go_roundw
          case rel => exact ⟨k + 1, at_ + 1, hkl, rfl, rfl, HP6, HR3, HB3, HS3⟩
          case measure => simp [intOf]; omega
        · have h3 : ((kd : Int) != 3) = true := by rw [hkk]; rfl
          have h5 : ((kd : Int) != 5) = false := by rw [hkk]; rfl
          clear hkk
          go_wp2_with fail
          refine hsp.mono ?_
          rintro e w3 ⟨rfl, hb3⟩
          have HB3 := Lib.hid (HBn.out.trans (hb3.mono HBn.out.size))
          have HR3 := Lib.hid (HRn.out.below hb3 HSn.out)
          have HS3 := Lib.hid (Nat.le_trans HSn.out hb3.size)
          have f3 := cells4L ((hb3.block _ l1).trans hw2)
          have l3 := Nat.lt_of_lt_of_le l1 hb3.size
          clear hb3 hsp hw2 f1 l1 c0 c1 c2 c3
          go_wp2_with fail
          go_roundw
          case rel => exact ⟨k + 1, at_ + 1, hkl, rfl, rfl, HP6, HR3, HB3, HS3⟩
          case measure => simp [intOf]; omega
    · go_wp2_with fail
      go_ret
      exact ⟨rfl, HB.out⟩
set_option maxRecDepth 100000 in
set_option maxHeartbeats 8000000 in
theorem lexPlaces_no (a : ByteArray) (w : World) (hm : MaxAt w) (hE : ∀ w', Below w.heap.size w w' → EnvL w') (n : Int) (q : Nat) (hx : allW (shortB a 2000) 0 = .inr (n, q)) :
    Calls Tryd.prog 4 #[.string a] w fun e w' => e = .returned (.bool true) ∧ Below w.heap.size w w' := by
  have haw := awake9_any w hm hE
  have hsa : ∀ w, Calls Tryd.prog 8 #[.string a, .int .i64 2000] w fun e w' => e = .returned (.string (shortB a 2000)) ∧ w' = w := fun w => short9_any a 2000 w
  have hla := shortB_size a 2000
  generalize shortB a 2000 = s at *
  have hn0 := allW_err hx
  have HA := Lib.hid (fun w' (h : Below w.heap.size w w') => all_any s w' (by omega) (max_below hm h) (fun w2 h2 => hE w2 (h.trans (h2.mono h.size))))
  have HX := Lib.hid hx
  clear hm hE hx
  go_enter Tryd.func4, Tryd.ntmps4
  go_wp2_with fail
  refine haw.mono ?_
  rintro e w1 ⟨rfl, hb1⟩
  have HB1 := Lib.hid hb1
  clear haw hb1
  go_wp2_with fail
  refine (hsa w1).mono ?_
  rintro e w' ⟨rfl, rfl⟩
  go_wp2_with fail
  refine (HA.out _ HB1.out).mono ?_
  rintro e w2 ⟨hb2, (⟨l, A, c, hl, _⟩ | ⟨n2, q2, hl, _, rfl⟩)⟩
  · rw [HX.out] at hl; cases hl
  rw [HX.out] at hl
  injection hl with hl
  injection hl with hl1 hl2
  subst hl1 hl2
  have HB2 := Lib.hid (HB1.out.trans (hb2.mono HB1.out.size))
  clear hb2
  go_wp2_with fail
  go_ret
  exact ⟨rfl, HB2.out⟩
theorem walk_LexPlaces (a : ByteArray) (w : World) (_ : a.size ≤ maxLen) (henv : EnvL w) (hm : MaxAt w) :
    Calls Tryd.prog 4 #[.string a] w fun e w' => e = .returned (.bool true) ∧ Below w.heap.size w w' := by
  have hE : ∀ w', Below w.heap.size w w' → EnvL w' := fun w' hb => henv.below hb
  cases hx : allW (shortB a 2000) 0 with
  | inr e => exact lexPlaces_no a w hm hE e.1 e.2 hx
  | inl x => exact lexPlaces_ok a w hm hE x hx
end Go.Proofs.YtijmigcgndlfcaaDoor.Fl
