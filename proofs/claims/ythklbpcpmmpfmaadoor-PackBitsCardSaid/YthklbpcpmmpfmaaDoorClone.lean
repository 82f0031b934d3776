/-
  Contracts of slices.Clone and slices.Equal at words, and of package pack's Bits.Clone and Bits.Same.
-/
import Derived.Test.YthklbpcpmmpfmaaDoorPop
import Derived.Test.YthklbpcpmmpfmaaDoorWord
import Derived.WalkSpells
namespace Go.Proofs.YthklbpcpmmpfmaaDoor.Fl
open Go.RowKit

theorem BitsAt.rd {w : World} {g g2 n : Nat} {ws : List Nat} (h : BitsAt w g g2 n ws) : Rd w w.heap.size (some ⟨g2, 0, none⟩) (cw ws) := by
  refine .inr ⟨g2, 0, rfl, h.gl2, fun j v hj => ?_⟩
  have hjl : j < ws.length := by
    rcases Nat.lt_or_ge j ws.length with h1 | h1
    · exact h1
    · rw [List.getElem?_eq_none (by rw [cw_len]; exact h1)] at hj; cases hj
  rw [Nat.zero_add, h.cw_ hjl, ← cw_at ws j hjl, hj]
def ClonePost (ws : List Nat) (w : World) (e : Ending) (w' : World) : Prop := ∃ (g c : Nat) (cur : Array Value), e = .returned (.slice (some ⟨g, 0, none⟩) ws.length c) ∧ w.heap.size ≤ g ∧ w'.heap[g]? = some (.cells cur 48 (0, 0)) ∧ cur.toList.take ws.length = cw ws ∧ Below w.heap.size w w'
theorem ownw_void (w : World) : OwnW (w.alloc (.cells #[] 48)) w.heap.size (.slice (some ⟨w.heap.size, 0, none⟩) 0 0) [] :=
  ⟨rfl, .inr ⟨w.heap.size, 0, #[], rfl, Nat.le_refl _, heap_alloc_new w _, Nat.le_refl _, by unfold maxLen; omega, rfl, rfl⟩⟩
theorem wpList_clone_words (w : World) {ops : Array Oper} {rest : List Oper} {o : Oper} {a : Act} {Q : Exit → Act → World → Prop} (hgd : o.guard = none) (s x : Operand)
    (ho : o.op = .call { callee := .builtin .append, args := #[s, x], argTypes := #[41, 41] })
    (base G c : Nat) (g2 : Nat) (ws : List Nat) (hs : a.eval s = .slice (some ⟨G, 0, none⟩) 0 0) (hown : OwnW w base (.slice (some ⟨G, 0, none⟩) 0 0) []) (hx : a.eval x = .slice (some ⟨g2, 0, none⟩) ws.length c)
    (hr : Rd w w.heap.size (some ⟨g2, 0, none⟩) (cw ws)) (hl : ws.length ≤ 262144) (hbase : base ≤ w.heap.size)
    (hK : ∀ g c' cur w', base ≤ g → Hid (w'.heap[g]? = some (.cells cur 48 (0, 0)) ∧ cur.toList.take ws.length = cw ws) → Below base w w' → wpList Tryd.prog ops Q rest (a.put o.dst (.slice (some ⟨g, 0, none⟩) ws.length c')) w') : wpList Tryd.prog ops Q (o :: rest) a w := by
  obtain ⟨i0, hi, hz0, hz1, hz2⟩ := info_parts u64info
  refine wpList_append_own w hgd s x 41 ho base 48 i0 (.int .u64 0) 1 8 Tryd.underlying41 hi hz0 hz1 hz2 rfl (by decide) _ 0 [] hs hown ⟨g2, 0, none⟩ ws.length c (cw ws) hx (by rw [cw_len, Nat.mul_one]) (rd_ad hr) (cw_one ws) (by unfold maxLen; omega) (by omega) hbase ?_
  intro v' w' h2 hg hnn
  have hb : Below base w w' := (Below.refl _ _).grown hg hbase (fun j hj => OwnW.lt hown j hj)
  rcases h2.2 with ⟨e1, e2⟩ | ⟨g, cap, cur, e1, e2, e3, _, _, _, e4⟩
  · exact absurd (hnn.1 e1).1 (by intro h; cases h)
  · simp only [Nat.zero_add, List.nil_append, Nat.mul_one] at e1 e4
    subst e1
    exact hK g cap cur w' e2 ⟨e3, e4⟩ hb
set_option maxHeartbeats 1000000 in
theorem clone_words (ws : List Nat) (c g2 : Nat) (w : World) (hr : Rd w w.heap.size (some ⟨g2, 0, none⟩) (cw ws)) (hl : ws.length ≤ 262144) :
    Calls Tryd.prog 52 #[.slice (some ⟨g2, 0, none⟩) ws.length c] w (ClonePost ws w) := by
  have HR := Lib.hid ((hr.below ((Below.refl w.heap.size w).alloc (Nat.le_refl _) (.cells #[] 48)) (Nat.le_refl _)).more (B' := (w.alloc (.cells #[] 48)).heap.size) (by simp))
  clear hr
  have q22 : ∀ (w : World) (a : Option Addr) (n c n' c' : Nat), (binOp .eql 41 (.slice a n c) (.slice none n' c')).run Tryd.prog w = .ok (.bool a.isNone) w := fun w a n c n' c' => Lib.run_eql_slice_nil w _ _ a n c n' c' Tryd.underlying41
  have HL := Lib.hid hl
  clear hl
  go_enter Tryd.func52, Tryd.ntmps52
  go_wp2_with (at_builtin; refine wpList_clone_words _ rfl _ _ rfl w.heap.size w.heap.size c g2 ws rfl (ownw_void w) rfl HR.out HL.out (by simp) ?_; intro g c' cur w' hg H hb)
  go_wp2_with fail
  go_ret
  exact ⟨g, c', cur, rfl, hg, H.out.1, H.out.2, ((Below.refl _ _).alloc (Nat.le_refl _) _).trans hb⟩
set_option maxHeartbeats 1000000 in
theorem clone_any (g g2 n : Nat) (ws : List Nat) (w : World) (h : BitsAt w g g2 n ws) :
    Calls Tryd.prog 21 #[.pointer (some ⟨g, 0, none⟩)] w fun e w' => ∃ g' g2', e = .returned (.pointer (some ⟨g', 0, none⟩)) ∧ w.heap.size ≤ g' ∧ w.heap.size ≤ g2' ∧ BitsAt w' g' g2' n ws ∧ Below w.heap.size w w' := by
  have hl : ws.length ≤ 262144 := by have := h.len; have := h.small; omega
  go_enter Tryd.func21, Tryd.ntmps21
  go_wp2_with fail
  refine (size_any _ _ _ _ _ h).mono ?_
  rintro e w' ⟨rfl, rfl⟩
  go_wp2_with fail
  refine (list_any _ _ _ _ _ h).mono ?_
  rintro e w' ⟨cc, rfl, rfl⟩
  go_wp2_with fail
  refine (clone_words ws cc g2 w h.rd hl).mono ?_
  rintro e w1 ⟨g', c', cur, rfl, hg, h3, h4, hb⟩
  have H3 := Lib.hid h3
  have H4 := Lib.hid h4
  have hs := hb.size
  clear h3 h4
  go_wp2_with fail
  go_ret
  have hlt : g' < w1.heap.size := by
    rcases Nat.lt_or_ge g' w1.heap.size with h1 | h1
    · exact h1
    · have := H3.out; rw [Array.getElem?_eq_none h1] at this; cases this
  exact ⟨w1.heap.size, g', rfl, hs, hg, ⟨⟨c', heap_alloc_new w1 _⟩, ⟨cur, (heap_alloc_old _ _ hlt).trans H3.out, H4.out⟩, h.len, h.lt, h.top, h.small⟩, hb.alloc hs _⟩

/-! ### Equal, Same -/
theorem take_eq_succ {ws us : List Nat} {k : Nat} (h1 : k < ws.length) (h2 : k < us.length) (h : ws.take k = us.take k) (e : ws[k] = us[k]) : ws.take (k + 1) = us.take (k + 1) := by
  rw [List.take_succ_eq_append_getElem h1, List.take_succ_eq_append_getElem h2, h, e]
def EqPost (b : Bool) (w : World) (e : Ending) (w' : World) : Prop := ∃ q : Nat, e = .returned (.bool b) ∧ w.drewN q = w'
set_option maxHeartbeats 2000000 in
theorem equal_words (ws us : List Nat) (c c2 B B2 : Nat) (A A2 : Option Addr) (w : World) (hr : Rd w B A (cw ws)) (hr2 : Rd w B2 A2 (cw us)) (hl : ws.length ≤ 262144) (hl2 : us.length ≤ 262144) :
    Calls Tryd.prog 53 #[.slice A ws.length c, .slice A2 us.length c2] w (EqPost (decide (ws = us)) w) := by
  by_cases hlen : ws.length = us.length
  · have hn : ((ws.length : Int) != (us.length : Int)) = false := by simp [hlen]
    have HLEN := Lib.hid hlen
    obtain ⟨b, hb⟩ : ∃ b, decide (ws = us) = b := ⟨_, rfl⟩
    rw [hb]
    have HB := Lib.hid hb
    clear hlen hb
    go_enter Tryd.func53, Tryd.ntmps53
    go_wp2_with fail
    go_loopw [13] (fun v wr => ∃ k q : Nat, k ≤ ws.length ∧ v = .int .i64 k ∧ Hid (ws.take k = us.take k) ∧ w.drewN q = wr) (fun v _ => ws.length - (intOf v).toNat)
    case atStart => exact ⟨0, 0, Nat.zero_le _, rfl, Lib.hid rfl, rfl⟩
    case round =>
      obtain ⟨k, q, hk, rfl, HT, rfl⟩ := hrel
      by_cases hlt : k < ws.length
      · have hlt2 : k < us.length := by have := HLEN.out; omega
        obtain ⟨b1, off1, rfl, _, hc1⟩ := rdw_at (w := w) hr hlt
        obtain ⟨b2, off2, rfl, _, hc2⟩ := rdw_at (w := w) hr2 hlt2
        by_cases he : ws[k] = us[k]
        · have HT2 := Lib.hid (take_eq_succ hlt hlt2 HT.out he)
          have hne : ((ws[k] : Int) != (us[k] : Int)) = false := by simp [he]
          clear he
          go_wp2_with fail
          go_quiet (fail)
          go_wp2_with fail
          go_roundw
          case rel => exact ⟨k + 1, _, by omega, by simp, HT2, rfl⟩
          case measure => simp [intOf]; omega
        · have hne : ((ws[k] : Int) != (us[k] : Int)) = true := by simp; omega
          have HB2 : Hid (b = false) := by
            refine Lib.hid ?_
            rw [← HB.out, decide_eq_false_iff_not]
            intro h; subst h; exact he rfl
          clear he
          go_wp2_with fail
          go_quiet (fail)
          go_wp2_with fail
          go_ret
          exact ⟨_, ret_bool HB2.out.symm, (World.drewN_drewN _ _ _).symm⟩
      · have HB2 : Hid (b = true) := by
          refine Lib.hid ?_
          rw [← HB.out, decide_eq_true_eq]
          have h1 := HT.out
          rw [List.take_of_length_le (by omega), List.take_of_length_le (by have := HLEN.out; omega)] at h1
          exact h1
        go_wp2_with fail
        go_ret
        exact ⟨_, ret_bool HB2.out.symm, rfl⟩
  · have hn : ((ws.length : Int) != (us.length : Int)) = true := by simp; omega
    have HB : Hid (decide (ws = us) = false) := Lib.hid (by rw [decide_eq_false_iff_not]; rintro rfl; exact hlen rfl)
    clear hlen
    generalize decide (ws = us) = b at HB ⊢
    go_enter Tryd.func53, Tryd.ntmps53
    go_wp2_with fail
    go_ret
    exact ⟨0, ret_bool HB.out.symm, rfl⟩
set_option maxHeartbeats 1000000 in
theorem same_bits (g g2 n : Nat) (ws : List Nat) (f f2 m : Nat) (us : List Nat) (w : World) (h : BitsAt w g g2 n ws) (h' : BitsAt w f f2 m us) :
    Calls Tryd.prog 22 #[.pointer (some ⟨g, 0, none⟩), .pointer (some ⟨f, 0, none⟩)] w (EqPost (decide (n = m ∧ ws = us)) w) := by
  have hl : ws.length ≤ 262144 := by have := h.len; have := h.small; omega
  have hl2 : us.length ≤ 262144 := by have := h'.len; have := h'.small; omega
  by_cases hnm : n = m
  · have hd : ((n : Int) == (m : Int)) = true := by simp [hnm]
    have HE : Hid (decide (n = m ∧ ws = us) = decide (ws = us)) := Lib.hid (by simp [hnm])
    clear hnm
    generalize decide (n = m ∧ ws = us) = bb at HE ⊢
    go_enter Tryd.func22, Tryd.ntmps22
    go_wp2_with fail
    refine (size_any _ _ _ _ _ h).mono ?_
    rintro e w' ⟨rfl, rfl⟩
    go_wp2_with fail
    refine (size_any _ _ _ _ _ h').mono ?_
    rintro e w' ⟨rfl, rfl⟩
    go_wp2_with fail
    refine (list_any _ _ _ _ _ h).mono ?_
    rintro e w' ⟨cc, rfl, rfl⟩
    go_wp2_with fail
    refine (list_any _ _ _ _ _ h').mono ?_
    rintro e w' ⟨cc', rfl, rfl⟩
    go_wp2_with fail
    refine (equal_words ws us cc cc' _ _ _ _ w h.rd h'.rd hl hl2).mono ?_
    rintro e w' ⟨q, rfl, rfl⟩
    generalize decide (ws = us) = b at HE ⊢
    go_wp2_with fail
    go_ret
    exact ⟨q, ret_bool HE.out.symm, rfl⟩
  · have hd : ((n : Int) == (m : Int)) = false := by simp; omega
    have HE : Hid (decide (n = m ∧ ws = us) = false) := Lib.hid (by simp [hnm])
    clear hnm
    generalize decide (n = m ∧ ws = us) = bb at HE ⊢
    go_enter Tryd.func22, Tryd.ntmps22
    go_wp2_with fail
    refine (size_any _ _ _ _ _ h).mono ?_
    rintro e w' ⟨rfl, rfl⟩
    go_wp2_with fail
    refine (size_any _ _ _ _ _ h').mono ?_
    rintro e w' ⟨rfl, rfl⟩
    go_wp2_with fail
    go_ret
    exact ⟨0, ret_bool HE.out.symm, rfl⟩
theorem same_bits_n (g g2 n : Nat) (ws : List Nat) (f f2 : Nat) (us : List Nat) (w : World) (h : BitsAt w g g2 n ws) (h' : BitsAt w f f2 n us) :
    Calls Tryd.prog 22 #[.pointer (some ⟨g, 0, none⟩), .pointer (some ⟨f, 0, none⟩)] w (EqPost (decide (ws = us)) w) := by
  have := same_bits g g2 n ws f f2 n us w h h'
  rwa [show decide (n = n ∧ ws = us) = decide (ws = us) by simp] at this
theorem words_ext {ws us : List Nat} (hl : ws.length = us.length) (h1 : ∀ x ∈ ws, x < 18446744073709551616) (h2 : ∀ x ∈ us, x < 18446744073709551616) (h : ∀ k, k < 64 * ws.length → bitAt ws k = bitAt us k) : ws = us := by
  apply List.ext_getElem hl
  intro a ha ha'
  apply Nat.eq_of_testBit_eq
  intro j
  by_cases hj : j < 64
  · rw [← bitAt_word ha hj, ← bitAt_word ha' hj]
    exact h _ (by omega)
  · have e64 : (2 : Nat) ^ 64 = 18446744073709551616 := by decide +kernel
    have hp : (2 : Nat) ^ 64 ≤ 2 ^ j := Nat.pow_le_pow_right (by decide) (by omega)
    rw [Nat.testBit_lt_two_pow (Nat.lt_of_lt_of_le (by rw [e64]; exact h1 _ (List.getElem_mem ha)) hp), Nat.testBit_lt_two_pow (Nat.lt_of_lt_of_le (by rw [e64]; exact h2 _ (List.getElem_mem ha')) hp)]
end Go.Proofs.YthklbpcpmmpfmaaDoor.Fl
