/-
  Text of what is encoded.
-/
import Derived.Test.YtdfghcbojbbgcaaDoorCeC
namespace Go.Proofs.YtdfghcbojbbgcaaDoor.Fl
open Go.RowKit

set_option maxRecDepth 100000 in
set_option maxHeartbeats 2000000 in
theorem text_any (l : List Ins) (bs : List UInt8) (hbs : encR l = some bs) (hl : l.length ≤ 1000) (hbl : bs.length ≤ 5 * l.length) (A : Option Addr) (c B : Nat) (w : World) (hr : Rd w B A (cb bs)) (hB : B ≤ w.heap.size) (hc : bs.length ≤ c) (hF : ∀ w', Below w.heap.size w w' → FormsAt w') (hE : ∀ w', Below w.heap.size w w' → EnvC w') :
    Calls Tryd.prog 8 #[.slice A bs.length c] w fun e w' => e = .returned (.tuple #[.string ⟨(textR 0 l).toArray⟩, .int .i64 0]) ∧ Below w.heap.size w w' := by
  have HR := Lib.hid hr
  have HF := Lib.hid hF
  have HE := Lib.hid hE
  have HBS := Lib.hid hbs
  have hw1 := heap_alloc_new w (.cells #[.pointer none, .slice none 0 0] 60)
  have hb1 : Below w.heap.size w (w.alloc (.cells #[.pointer none, .slice none 0 0] 60)) := (Below.refl _ _).alloc (Nat.le_refl _) _
  have HI1 : Hid (IsB (w.alloc (.cells #[.pointer none, .slice none 0 0] 60)) w.heap.size w.heap.size []) := Lib.hid (.inl ⟨Nat.le_refl _, _, hw1, World.ownsRow_nil _ _ _ _, by simp [Value.ownBlock]⟩)
  have HB1 := Lib.hid hb1
  clear hr hF hE hb1 hw1 hbs
  go_enter Tryd.func8, Tryd.ntmps8
  go_wp2_with fail
  generalize w.alloc (.cells #[.pointer none, .slice none 0 0] 60) = w1 at *
  go_loopw [5] (fun v5 wr => ∃ (k q : Nat) (ts : List UInt8), k ≤ l.length ∧ q ≤ bs.length ∧ ts.length ≤ 200 * k ∧ v5 = .int .i64 (q : Int) ∧ Hid (∃ pre cs, bs = pre ++ cs ∧ pre.length = q ∧ encR (l.drop k) = some cs) ∧ Hid (ts ++ textR q (l.drop k) = textR 0 l) ∧ Hid (IsB wr w.heap.size w.heap.size ts) ∧ Hid (Below w.heap.size w wr)) (fun v5 _ => bs.length - (intOf v5).toNat)
  case atStart => exact ⟨0, 0, [], Nat.zero_le _, Nat.zero_le _, Nat.zero_le _, rfl, Lib.hid ⟨[], bs, rfl, rfl, by rw [List.drop_zero]; exact HBS.out⟩, Lib.hid (by rw [List.drop_zero]; rfl), HI1, HB1⟩
  case round =>
    obtain ⟨k, q, ts, hk, hq, htl, rfl, HP, HT, HI, HO⟩ := hrel
    clear HI1 HB1 HBS
    by_cases hlt : k < l.length
    · obtain ⟨op, a, b, he⟩ : ∃ op a b, l[k] = (op, a, b) := ⟨_, _, _, rfl⟩
      obtain ⟨pre, cs, hpc, hpl, hcs⟩ := HP.out
      have HT2 := HT.out
      rw [List.drop_eq_getElem_cons hlt, he] at hcs HT2
      obtain ⟨hi, ds, hds, hcd⟩ := encR_cons hcs
      replace hi : isI op a b = true := hi
      have hde := dec_enc hi pre ds
      rw [List.append_assoc, ← hcd, ← hpc, hpl] at hde
      have hel := enc1_len hi
      have hlen : q + (enc1 (op, a, b)).length ≤ bs.length := by rw [hpc, hcd, List.length_append, List.length_append]; omega
      have HP2 : Hid (∃ pre' cs', bs = pre' ++ cs' ∧ pre'.length = q + (enc1 (op, a, b)).length ∧ encR (l.drop (k + 1)) = some cs') := Lib.hid ⟨pre ++ enc1 (op, a, b), ds, by rw [hpc, hcd, List.append_assoc], by rw [List.length_append, hpl], hds⟩
      have HT3 : Hid ((ts ++ lineR q (op, a, b)) ++ textR (q + (enc1 (op, a, b)).length) (l.drop (k + 1)) = textR 0 l) := Lib.hid (by rw [← HT2, textR, List.append_assoc])
      obtain ⟨⟨a0, a1⟩, b0, b1⟩ := isI_bd hi
      obtain ⟨kk, rfl, hkk⟩ := isI_op hi
      have hll := line_le q ((kk : Int), a, b) (by omega) (by show _ ≤ a ∧ a ≤ _; omega) (by show _ ≤ b ∧ b ≤ _; omega)
      have hdec := decode_any bs (q : Int) A c B wr (HR.out.below HO.out hB) (Nat.le_trans hB HO.out.size) hc (by omega) (HF.out _ HO.out)
      rw [hde] at hdec
      have h1m := hel.1
      generalize (enc1 ((kk : Int), a, b)).length = m at *
      have hql : q < bs.length := by omega
      clear hpc hpl hcs hds hcd hde he HP HT HT2 hi hel
      go_wp2_with fail
      refine hdec.mono ?_
      rintro e w2 ⟨hb2, hcase⟩
      obtain ⟨y, p, hxp, rfl⟩ | ⟨n, hxp, _⟩ := hcase
      rotate_left 1
      · cases hxp
      obtain ⟨rfl, rfl⟩ : y = ((kk : Int), a, b) ∧ p = q + m := by cases hxp; exact ⟨rfl, rfl⟩
      have hb3 : Below wr.heap.size wr (w2.alloc (.cells #[.int .i64 (kk : Int), .int .i64 a, .int .i64 b] 34)) := hb2.alloc hb2.size _
      have HO3 := Lib.hid (HO.out.trans (hb3.mono HO.out.size))
      have HI3 := Lib.hid (HI.out.keep hb3)
      have hw3 := heap_alloc_new w2 (.cells #[.int .i64 (kk : Int), .int .i64 a, .int .i64 b] 34)
      have f3 := three_cellsC hw3
      have hli := line_any q kk (by omega) hkk a b (by omega) (by omega) (w2.alloc (.cells #[.int .i64 (kk : Int), .int .i64 a, .int .i64 b] 34)) (fun w' h => HF.out _ (HO3.out.trans (h.mono HO3.out.size))) (fun w' h => HE.out _ (HO3.out.trans (h.mono HO3.out.size)))
      have hwr := fun (w4 : World) (hb : Below (w2.alloc (.cells #[.int .i64 (kk : Int), .int .i64 a, .int .i64 b] 34)).heap.size (w2.alloc (.cells #[.int .i64 (kk : Int), .int .i64 a, .int .i64 b] 34)) w4) => writeC w.heap.size w.heap.size (Lib.byteCells ts) ⟨(lineR q ((kk : Int), a, b)).toArray⟩ w4 (HI3.out.keep hb) (by rw [Lib.byteCells_length]; show _ + (lineR q ((kk : Int), a, b)).length ≤ _; omega) (Nat.le_trans HO3.out.size hb.size)
      rw [show Lib.byteCells ts ++ Lib.strCells ⟨(lineR q ((kk : Int), a, b)).toArray⟩ = Lib.byteCells (ts ++ lineR q ((kk : Int), a, b)) from (Lib.byteCells_append _ _).symm] at hwr
      have htl2 : (ts ++ lineR q ((kk : Int), a, b)).length ≤ 200 * (k + 1) := by rw [List.length_append]; omega
      generalize lineR q ((kk : Int), a, b) = ln at *
      clear hdec hxp hb2 hb3 hw3 HO HI hll
      unfold insV
      go_wp2_with (first | (go_at_call 16; refine hli.mono ?_; rintro e w4 ⟨rfl, hb4⟩; have hw4 := hwr w4 hb4; have HO4 := Lib.hid (HO3.out.trans (hb4.mono HO3.out.size)); clear hwr hli hb4) | (go_at_call 15; refine hw4.mono ?_; rintro e w5 ⟨rfl, hbd, hb5⟩; have HI5 : Hid (IsB w5 w.heap.size w.heap.size (ts ++ ln)) := Lib.hid (.inr hbd); have HO5 := Lib.hid (HO4.out.trans hb5); clear hw4 hbd hb5))
      go_roundw
      case rel => exact ⟨k + 1, q + m, ts ++ ln, hlt, hlen, htl2, by simp, HP2, HT3, HI5, HO5⟩
      case measure => simp [intOf]; omega
    · obtain rfl : k = l.length := by omega
      obtain ⟨pre, cs, hpc, hpl, hcs⟩ := HP.out
      rw [List.drop_of_length_le (Nat.le_refl _), encR] at hcs
      injection hcs with hcs
      subst hcs
      rw [List.append_nil] at hpc
      have hqe : ¬ (q < bs.length) := by rw [hpc, hpl]; omega
      have HT2 := HT.out
      rw [List.drop_of_length_le (Nat.le_refl _), textR, List.append_nil] at HT2
      have HT3 := Lib.hid HT2
      have hst := Tryd.Builder_String_any w.heap.size w.heap.size ts wr HI.out HO.out.size
      clear hpc hpl HP HT HT2
      go_wp2_with (first | (go_at_call 17; refine hst.mono ?_; rintro e w7 ⟨rfl, hb7⟩))
      have hb8 := HO.out.trans hb7
      go_ret2
      exact ⟨by rw [← HT3.out]; rfl, hb8⟩
end Go.Proofs.YtdfghcbojbbgcaaDoor.Fl

