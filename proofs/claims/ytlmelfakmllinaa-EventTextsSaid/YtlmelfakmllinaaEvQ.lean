/-
  Events: what is quoted, read back.
-/
import Derived.Test.YtlmelfakmllinaaEvP
namespace Go.Proofs.Ytlmelfakmllinaa.Fl
open Go.RowKit

theorem ext_dropE (l : List UInt8) (n : Nat) : (⟨l.toArray⟩ : ByteArray).extract n (⟨l.toArray⟩ : ByteArray).size = ⟨(l.drop n).toArray⟩ := by
  have h := sb_tail ⟨l.toArray⟩ n
  have e : ∀ s : ByteArray, s = ⟨(sb s).toArray⟩ := fun s => by cases s; simp [sb]
  rw [e (ByteArray.extract _ _ _), h]
theorem trimP_quo (q : List UInt8) : Lib.trimPrefix (34 :: q) [34] = q := by
  unfold Lib.trimPrefix Lib.hasPrefix
  rw [if_pos (by simp [List.isPrefixOf])]
  rfl
theorem trimS_quo (q : List UInt8) : Lib.trimSuffix (q ++ [34]) [34] = q := by
  unfold Lib.trimSuffix Lib.hasSuffix
  rw [if_pos (by rw [List.isSuffixOf_iff_suffix]; exact List.suffix_append ..)]
  simp
theorem trimP_quoL (l : List UInt8) : Lib.trimPrefix (⟨(quoL l).toArray⟩ : ByteArray).data.toList (⟨#[34]⟩ : ByteArray).data.toList = l.flatMap quoB ++ [34] := trimP_quo _
theorem trimS_quoL (q : List UInt8) : Lib.trimSuffix (⟨(q ++ [34]).toArray⟩ : ByteArray).data.toList (⟨#[34]⟩ : ByteArray).data.toList = q := trimS_quo _
def strLen : Value → Nat
  | .string s => s.size
  | _ => 0
theorem quoB_pos (c : UInt8) : 0 < (quoB c).length := by unfold quoB; split <;> simp
set_option maxRecDepth 100000 in
set_option maxHeartbeats 4000000 in
theorem unquoted_any (l : List UInt8) (w : World) (hl : l.length ≤ 1000) :
    Calls Try.prog 42 #[.string ⟨(quoL l).toArray⟩] w (ShownPost l w) := by
  have hp := (Try.strings_TrimPrefix ⟨(quoL l).toArray⟩ ⟨#[34]⟩ w).mono fun e w' h => (show e = .returned (.string ⟨(l.flatMap quoB ++ [34]).toArray⟩) ∧ w = w' from ⟨by rw [h.1, trimP_quoL], h.2.symm⟩)
  have hlen := flat_len quoB 3 l fun x _ => quoB_len x
  have hs := (Try.strings_TrimSuffix ⟨(l.flatMap quoB ++ [34]).toArray⟩ ⟨#[34]⟩ w (by show (l.flatMap quoB ++ [34]).toArray.size ≤ _; rw [List.size_toArray, List.length_append, List.length_singleton]; omega)).mono fun e w' h => (show e = .returned (.string ⟨(l.flatMap quoB).toArray⟩) ∧ w = w' from ⟨by rw [h.1, trimS_quoL], h.2.symm⟩)
  go_enter Try.func42, Try.ntmps42
  go_wp2_with (first
    | (go_at_call 49; refine hp.mono ?_; rintro e w1 ⟨rfl, rfl⟩; clear hp)
    | (go_at_call 48; refine hs.mono ?_; rintro e w2 ⟨rfl, rfl⟩; clear hs))
  go_loopw [0, 3] (fun s u wr => ∃ (k : Nat) (ts : List UInt8) (A : Option Addr) (c : Nat), k ≤ l.length ∧ s = .string ⟨((l.drop k).flatMap quoB).toArray⟩ ∧ u = .slice A ts.length c ∧ Hid (ts = l.take k) ∧ Hid (Own wr w.heap.size (.slice A ts.length c) ts) ∧ Hid (Below w.heap.size w wr)) (fun s _ _ => strLen s)
  case atStart => exact ⟨0, [], none, 0, Nat.zero_le _, rfl, rfl, Lib.hid rfl, Lib.hid (World.ownsRow_nil _ _ _ _), Lib.hid (Below.refl _ _)⟩
  case round =>
    obtain ⟨k, ts, A, c, hk, rfl, rfl, HT, HO, HB⟩ := hrel
    have hsz := HB.out.size
    by_cases hlt : k < l.length
    case neg =>
      have HE := Lib.hid (show ts = l by have := HT.out; rwa [List.take_of_length_le (by omega)] at this)
      rw [show (l.drop k).flatMap quoB = [] by rw [List.drop_eq_nil_of_le (by omega)]; rfl]
      go_wp2_with fail
      go_ret
      exact ⟨A, c, by rw [← HE.out]; rfl, by rw [← HE.out]; exact HO.out, HB.out⟩
    have hd : l.drop k = l[k] :: l.drop (k + 1) := List.drop_eq_getElem_cons hlt
    have HTk : Hid (l.take (k + 1) = l.take k ++ [l[k]]) := Lib.hid (List.take_succ_eq_append_getElem hlt)
    have hln : ts.length ≤ 1000000 := by rw [HT.out, List.length_take]; omega
    rw [hd, List.flatMap_cons]
    generalize l[k] = x at *
    clear hd
    obtain ⟨R, hR⟩ : ∃ R, (l.drop (k + 1)).flatMap quoB = R := ⟨_, rfl⟩
    rw [hR]
    have HR := Lib.hid hR
    clear hR
    have hne : (quoB x ++ R).isEmpty = false := by
      have := quoB_pos x
      cases h : quoB x with
      | nil => rw [h] at this; simp at this
      | cons a b => rfl
    have hsz2 : (⟨(quoB x ++ R).toArray⟩ : ByteArray).size = (quoB x ++ R).length := List.size_toArray ..
    by_cases hp : plainB x = true
    · skip
      have hq : quoB x = [x] := by unfold quoB; rw [if_pos hp]
      have hx92 : x.toNat ≠ 92 := by simp [plainB] at hp; omega
      have hfi := first_plainE ⟨(quoB x ++ R).toArray⟩ x wr (by rw [hsz2, hq]; simp) (by simp only [hq]; rfl) hx92
      clear hx92
      have HX := Lib.hid (show (⟨(quoB x ++ R).toArray⟩ : ByteArray).extract 1 (⟨(quoB x ++ R).toArray⟩ : ByteArray).size = ⟨R.toArray⟩ by rw [ext_dropE, hq]; rfl)
      have HSZ := Lib.hid hsz2
      have hl1 : (1 : Int) ≤ ((quoB x).length : Int) + (R.length : Int) := by rw [hq]; simp only [List.length_cons, List.length_nil]; omega
      have HX2 := Lib.hid (show (⟨(quoB x ++ R).toArray⟩ : ByteArray).extract 1 ((quoB x).length + R.length) = ⟨R.toArray⟩ by rw [← HX.out, hsz2, List.length_append])
      have HL := Lib.hid (show R.length < (quoB x ++ R).length by rw [hq, List.length_append]; simp only [List.length_cons, List.length_nil]; omega)
      clear hp hq hsz2
      go_upto_region 5 with (go_at_call 50; refine hfi.mono ?_; rintro e w4 ⟨rfl, hb4⟩; have HB4 := Lib.hid hb4; clear hfi hb4)
      have hr := rdE_row w4 [x]
      have hb5 : Below w4.heap.size w4 (w4.alloc (.cells (cb [x]).toArray 5)) := (Below.refl _ _).alloc (Nat.le_refl _) _
      have ho := OwnE_below (OwnE_below HO.out HB4.out) hb5
      have HB5 := Lib.hid ((HB.out.trans (HB4.out.mono hsz)).trans (hb5.mono (Nat.le_trans hsz HB4.out.size)))
      have hs5 := HB5.out.size
      clear hb5 hlen
      go_wp2_with (at_builtin; refine wpList_append_e (base := w.heap.size) (v := .slice A ts.length c) (xs := ts) (news := [x]) rfl _ _ rfl rfl rfl ho hr (fun h => by cases h) hln (by simp) hs5 ?_; intro A6 t6 c6 w6 HT6 HO6 HK6)
      go_roundw
      case rel => exact ⟨k + 1, t6, A6, c6, by omega, by rw [HR.out]; exact congrArg Value.string (by first | exact HX2.out | exact HX.out), rfl, Lib.hid (by rw [HT6.out, HT.out, HTk.out]), HO6, Lib.hid (HB5.out.trans HK6.out.1)⟩
      case measure =>
        have h9 := HL.out
        have h8 := HSZ.out
        rw [List.length_append] at h8 h9
        simp [strLen]
        omega
    · skip
      have hq : quoB x = [92, hexB (x.toNat / 16), hexB (x.toNat % 16)] := by unfold quoB; rw [if_neg hp]
      have hfi := first_escE ⟨(quoB x ++ R).toArray⟩ x wr (by rw [hsz2, hq]; simp) (by simp only [hq]; rfl) (by simp only [hq]; rfl) (by simp only [hq]; rfl)
      have HX := Lib.hid (show (⟨(quoB x ++ R).toArray⟩ : ByteArray).extract 3 (⟨(quoB x ++ R).toArray⟩ : ByteArray).size = ⟨R.toArray⟩ by rw [ext_dropE, hq]; rfl)
      have HSZ := Lib.hid hsz2
      have hl1 : (3 : Int) ≤ ((quoB x).length : Int) + (R.length : Int) := by rw [hq]; simp only [List.length_cons, List.length_nil]; omega
      have HX2 := Lib.hid (show (⟨(quoB x ++ R).toArray⟩ : ByteArray).extract 3 ((quoB x).length + R.length) = ⟨R.toArray⟩ by rw [← HX.out, hsz2, List.length_append])
      have HL := Lib.hid (show R.length < (quoB x ++ R).length by rw [hq, List.length_append]; simp only [List.length_cons, List.length_nil]; omega)
      clear hp hq hsz2
      go_upto_region 5 with (go_at_call 50; refine hfi.mono ?_; rintro e w4 ⟨rfl, hb4⟩; have HB4 := Lib.hid hb4; clear hfi hb4)
      have hr := rdE_row w4 [x]
      have hb5 : Below w4.heap.size w4 (w4.alloc (.cells (cb [x]).toArray 5)) := (Below.refl _ _).alloc (Nat.le_refl _) _
      have ho := OwnE_below (OwnE_below HO.out HB4.out) hb5
      have HB5 := Lib.hid ((HB.out.trans (HB4.out.mono hsz)).trans (hb5.mono (Nat.le_trans hsz HB4.out.size)))
      have hs5 := HB5.out.size
      clear hb5 hlen
      go_wp2_with (at_builtin; refine wpList_append_e (base := w.heap.size) (v := .slice A ts.length c) (xs := ts) (news := [x]) rfl _ _ rfl rfl rfl ho hr (fun h => by cases h) hln (by simp) hs5 ?_; intro A6 t6 c6 w6 HT6 HO6 HK6)
      go_roundw
      case rel => exact ⟨k + 1, t6, A6, c6, by omega, by rw [HR.out]; exact congrArg Value.string (by first | exact HX2.out | exact HX.out), rfl, Lib.hid (by rw [HT6.out, HT.out, HTk.out]), HO6, Lib.hid (HB5.out.trans HK6.out.1)⟩
      case measure =>
        have h9 := HL.out
        have h8 := HSZ.out
        rw [List.length_append] at h8 h9
        simp [strLen]
        omega
end Go.Proofs.Ytlmelfakmllinaa.Fl
