/-
  Events: the document's text of them; the first byte of what is quoted.
-/
import Derived.Test.YtlmelfakmllinaaEvL
namespace Go.Proofs.Ytlmelfakmllinaa.Fl
open Go.RowKit

theorem app_bytesE1 (l m : List UInt8) : (⟨(l ++ m).toArray⟩ : ByteArray) = ⟨l.toArray⟩ ++ ⟨m.toArray⟩ := by
  apply ByteArray.ext
  simp [ByteArray.data_append]
theorem app_bytesE2 (l m k : List UInt8) : (⟨(l ++ m ++ k).toArray⟩ : ByteArray) = ⟨l.toArray⟩ ++ ⟨m.toArray⟩ ++ ⟨k.toArray⟩ := by
  rw [app_bytesE1, app_bytesE1]
set_option maxRecDepth 100000 in
set_option maxHeartbeats 4000000 in
theorem rtext_any (xs : List EE) (A : Option Addr) (c B : Nat) (w : World) (h : EvsAt w B A xs) (hB : B ≤ w.heap.size) (hl : xs.length ≤ 40) :
    Calls Try.prog 10 #[.slice A xs.length c] w fun e w' => e = .returned (.string ⟨(textE (evs xs)).toArray⟩) ∧ Below w.heap.size w w' := by
  have H := Lib.hid h
  clear h
  go_enter Try.func10, Try.ntmps10
  go_wp2_with fail
  go_loopw [3, 4] (fun s u wr => ∃ (k : Nat) (ts : List UInt8), k ≤ xs.length ∧ s = .string ⟨ts.toArray⟩ ∧ u = .int .i64 (k : Int) ∧ Hid (ts = textE (evs (xs.take k))) ∧ Hid (Below w.heap.size w wr)) (fun _ u _ => xs.length - (intOf u).toNat)
  case atStart => exact ⟨0, [], Nat.zero_le _, rfl, rfl, Lib.hid rfl, Lib.hid (Below.refl _ _)⟩
  case round =>
    obtain ⟨k, ts, hk, rfl, rfl, HT, HO⟩ := hrel
    have hsz := HO.out.size
    by_cases hlt : k < xs.length
    case neg =>
      have hq : ¬ ((k : Int) < (xs.length : Int)) := by omega
      have HE := Lib.hid (show ts = textE (evs xs) by have := HT.out; rwa [List.take_of_length_le (by omega)] at this)
      go_wp2_with fail
      go_ret
      exact ⟨by rw [← HE.out]; rfl, HO.out⟩
    have H2 := H.out.below HO.out hB
    obtain ⟨g, off, rfl, hg, c0, c1, c2⟩ := ee_at H2.rd hlt
    obtain ⟨r1, r2, r3⟩ := H2.bs _ (List.getElem_mem hlt)
    have HS := Lib.hid (H2.sm _ (List.getElem_mem hlt))
    have hq : (k : Int) < (xs.length : Int) := by omega
    have hlg : g < wr.heap.size := by omega
    have HTk : Hid (xs.take (k + 1) = xs.take k ++ [xs[k]]) := Lib.hid (List.take_succ_eq_append_getElem hlt)
    have hln : ts.length ≤ 40 * 611 := by
      have h1 := textE_len (evs_small (xs := xs.take k) fun x hx => H2.sm x (List.mem_of_mem_take hx))
      have h2 : (evs (xs.take k)).length ≤ 40 := by rw [List.length_map, List.length_take]; omega
      have h3 := Nat.mul_le_mul_right 611 h2
      rw [HT.out]
      omega
    clear H2
    generalize xs[k] = x at *
    have hli := rline_any x.1 x.2.1 x.2.2 B wr r1 (Nat.le_trans hB hsz) ⟨by have := HS.out.1; omega, by have := HS.out.2; omega⟩
    have hln2 := lineE_len HS.out
    have hc1 : ¬ 9223372036854775807 < ts.length + (lineE x.1).length := by omega
    have hc2 : ¬ 9223372036854775807 < ts.length + (lineE x.1).length + 1 := by omega
    clear r1 r2 r3 hln2
    go_wp2_with (go_at_call 24; refine hli.mono ?_; rintro e w3 ⟨rfl, hb3⟩; have HO3 := Lib.hid (HO.out.trans (hb3.mono HO.out.size)); clear hli hb3)
    go_roundw
    case rel => exact ⟨k + 1, ts ++ lineE x.1 ++ [10], by omega, by rw [app_bytesE2], by simp, Lib.hid (by rw [HT.out, HTk.out, evs_snoc, textE_app]; simp [textE]), HO3⟩
    case measure => simp [intOf]; omega
end Go.Proofs.Ytlmelfakmllinaa.Fl
