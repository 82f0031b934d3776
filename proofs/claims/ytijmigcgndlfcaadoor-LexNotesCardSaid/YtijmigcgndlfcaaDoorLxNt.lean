/-
  The lexer: a token as it is written, with a blank or a note behind it, is read as it.
-/
import Derived.Test.YtijmigcgndlfcaaDoorLxNs
namespace Go.Proofs.YtijmigcgndlfcaaDoor.Fl
open Go.RowKit

/-- what begins a token's text -/
def Beg (W : List UInt8) : Prop := ∃ c r, W = c :: r ∧ blankN c.toNat = false ∧ c ≠ 34
theorem midS {s : ByteArray} {q : Nat} {W R : List UInt8} (h : (sb s).drop q = W ++ R) : midL s q (q + W.length) = W := by
  rw [mid_drop, h, List.take_left' rfl]
theorem at_name {s : ByteArray} {q : Nat} {wd R : List UInt8} (h : (sb s).drop q = wd ++ R) (hR : Sep R) (hl : wd.length ≤ 64) (hp : partA wd = true) {c : UInt8} {r : List UInt8} (hc : wd = c :: r) (hlc : letterN c.toNat = true) : tokAt s q = .inl (1, wd, 0, q, q + wd.length) := by
  have hn := named_nameS h hp hR
  have hcs : (sb s).drop q = c :: (r ++ R) := by rw [h, hc]; rfl
  unfold tokAt
  rw [if_neg (by have := sizeS hcs; omega), look_cons hcs, if_pos hlc, hn, midS h, if_neg (by omega)]
theorem at_key {s : ByteArray} {q : Nat} {nm R : List UInt8} (h : (sb s).drop q = (nm ++ [58]) ++ R) (hR : Sep R) (hl : nm.length + 1 ≤ 64) (hp : partA nm = true) {c : UInt8} {r : List UInt8} (hc : nm = c :: r) (hlc : letterN c.toNat = true) : tokAt s q = .inl (2, nm ++ [58], 0, q, q + (nm ++ [58]).length) := by
  have h2 : (sb s).drop q = nm ++ 58 :: R := by rw [h, List.append_assoc]; rfl
  have hn := named_key h2 hp (fun c r e => by rcases hR c r e with rfl | rfl <;> decide)
  have hcs : (sb s).drop q = c :: (r ++ 58 :: R) := by rw [h2, hc]; rfl
  have hm := midS h
  have hll : (nm ++ [58]).length = nm.length + 1 := by simp
  rw [hll, ← Nat.add_assoc] at hm
  unfold tokAt
  rw [if_neg (by have := sizeS hcs; omega), look_cons hcs, if_pos hlc, hn, hm, if_neg (by omega), hll]
  rfl
theorem itoa_dig {n : Int} (hr : InR n) (h0 : 0 ≤ n) : ((Lib.itoa n).all fun c => digitN c.toNat) = true ∧ ∃ c r, Lib.itoa n = c :: r := by
  obtain ⟨hf, hsp⟩ := itoa_form n
  have hneg : isNeg (Lib.itoa n) = false := by rw [(itoa_parts n).2]; simp; omega
  have hbody : body (Lib.itoa n) = Lib.itoa n := by
    unfold isNeg at hneg
    unfold body
    rw [if_neg]
    intro h
    rw [h] at hneg
    simp at hneg
  unfold form at hf
  rw [hbody, Bool.and_eq_true] at hf
  refine ⟨hf.1, ?_⟩
  cases h : Lib.itoa n with
  | nil => rw [h] at hf; simp at hf
  | cons c r => exact ⟨c, r, rfl⟩
theorem at_int {s : ByteArray} {q : Nat} {n : Int} {R : List UInt8} (h : (sb s).drop q = Lib.itoa n ++ R) (hR : Sep R) (hr : InR n) (h0 : 0 ≤ n) : tokAt s q = .inl (3, [], n, q, q + (Lib.itoa n).length) := by
  obtain ⟨hpv, hpe⟩ := itoa_pv hr
  obtain ⟨hall, c, r, hc⟩ := itoa_dig hr h0
  have hrun := run_app (f := digitN) h hall hR.dig
  have hcs : (sb s).drop q = c :: (r ++ R) := by rw [h, hc]; rfl
  have hdc : digitN c.toNat = true := by rw [hc, List.all_cons, Bool.and_eq_true] at hall; exact hall.1
  unfold tokAt
  rw [if_neg (by have := sizeS hcs; omega), look_cons hcs, if_neg (by rw [(digit_f hdc).1]; simp), if_pos hdc, hrun, midS h, if_pos hpe, hpv]
theorem at_text {s : ByteArray} {q : Nat} {wd R : List UInt8} (h : (sb s).drop q = quoL wd ++ R) (hR : Sep R) (hl : wd.length ≤ 4096) : tokAt s q = .inl (4, wd, 0, q, q + (quoL wd).length) := by
  have hcs : (sb s).drop q = 39 :: (dbl wd ++ 39 :: R) := by rw [h, quoL, List.cons_append, List.append_assoc]; rfl
  have hd1 : (sb s).drop (q + 1) = dbl wd ++ 39 :: R := by rw [← List.drop_drop, hcs]; rfl
  obtain ⟨hq1, hq2⟩ := quo_readS hd1 hR
  have hlk : lookB s q = 39 := look_cons hcs
  have hll : (quoL wd).length = (dbl wd).length + 2 := by simp [quoL]
  unfold tokAt
  rw [if_neg (by have := sizeS hcs; omega), hlk, if_neg (by decide), if_neg (by decide), if_neg (by decide), if_pos rfl, hq1]
  simp only [hq2]
  rw [if_neg (by omega), hll, show q + 1 + (dbl wd).length + 1 = q + ((dbl wd).length + 2) by omega]
theorem at_op {s : ByteArray} {q : Nat} {wd R : List UInt8} (h : (sb s).drop q = wd ++ R) (hR : Sep R) (ho : isOpL wd = true) (hq : q ≤ s.size) : tokAt s q = .inl (6, wd, 0, q, q + wd.length) := by
  have hr := op_readS h hq hR ho
  obtain ⟨c, r, hc, _, h1, h2, h3, h4, h5, h6, h7, h8⟩ := op_list ho
  have hcs : (sb s).drop q = c :: (r ++ R) := by rw [h, hc]; rfl
  unfold tokAt
  rw [if_neg (by have := sizeS hcs; omega), look_cons hcs, if_neg (by rw [h1]; simp), if_neg (by rw [h2]; simp), if_neg h6, if_neg h7, if_neg h5]
  unfold markR
  rw [hr, if_pos (by rw [hc]; simp), midS h]
  rfl
theorem at_hash {s : ByteArray} {q : Nat} {l : List UInt8} (h : (sb s).drop q = 35 :: l) : tokAt s q = ofKw q (hashR s q) := by
  have hlk : lookB s q = 35 := look_cons h
  unfold tokAt
  rw [if_neg (by have := sizeS h; omega), hlk, if_neg (by decide), if_neg (by decide), if_neg (by decide), if_neg (by decide), if_pos rfl]
theorem at_quoted {s : ByteArray} {q : Nat} {wd R : List UInt8} (h : (sb s).drop q = 35 :: quoL wd ++ R) (hR : Sep R) (hl : wd.length ≤ 64) : tokAt s q = .inl (5, wd, 0, q, q + (35 :: quoL wd).length) := by
  have hcs : (sb s).drop q = 35 :: 39 :: (dbl wd ++ 39 :: R) := by rw [h, quoL, List.cons_append, List.cons_append, List.append_assoc]; rfl
  rw [at_hash hcs]
  have hd1 : (sb s).drop (q + 1) = 39 :: (dbl wd ++ 39 :: R) := by rw [← List.drop_drop, hcs]; rfl
  have hd2 : (sb s).drop (q + 2) = dbl wd ++ 39 :: R := by rw [← List.drop_drop, hcs]; rfl
  obtain ⟨hq1, hq2⟩ := quo_readS hd2 hR
  have hlk : lookB s (q + 1) = 39 := look_cons hd1
  have hll : (35 :: quoL wd).length = (dbl wd).length + 3 := by simp [quoL]
  unfold hashR
  rw [hlk, if_neg (by decide), if_pos rfl, hq1]
  simp only [hq2]
  rw [if_neg (by omega), hll, show q + 2 + (dbl wd).length + 1 = q + ((dbl wd).length + 3) by omega]
  rfl
theorem at_sym {s : ByteArray} {q : Nat} {wd R : List UInt8} (h : (sb s).drop q = 35 :: wd ++ R) (hR : Sep R) (hq : q ≤ s.size) (hl : wd.length ≤ 64) (ha : 0 ≤ arityL (mkB wd)) : tokAt s q = .inl (5, wd, 0, q, q + (35 :: wd).length) := by
  have hcs : (sb s).drop q = 35 :: (wd ++ R) := by rw [h]; rfl
  rw [at_hash hcs]
  have hsw : sb (mkB wd) = wd := sb_mk wd
  have hqs := sizeS hcs
  have hd : (sb s).drop (q + 1) = wd ++ R := by rw [← List.drop_drop, hcs]; rfl
  have hmid := midS hd
  have hjoin : ∀ c r, wd = c :: r → letterN c.toNat = true → joinR s (q + 1) = q + 1 + wd.length → hashR s q = .inl (5, wd, q + 1 + wd.length) := by
    intro c r hc hlc hj
    obtain ⟨_, _, _, h40, h39, _⟩ := letter_f hlc
    have hlk : lookB s (q + 1) = c.toNat := look_cons (l := r ++ R) (by rw [hd, hc]; rfl)
    unfold hashR
    rw [hlk, if_neg h40, if_neg h39, if_pos hlc, hj, hmid, if_neg (by omega)]
  suffices h : hashR s q = .inl (5, wd, q + 1 + wd.length) by
    rw [h, List.length_cons, show q + 1 + wd.length = q + (wd.length + 1) by omega]; rfl
  unfold arityL at ha
  rw [mkB_size, if_neg (by omega), hsw] at ha
  split at ha
  · next hn =>
    obtain ⟨hp, c, r, hc, hlc⟩ := name_parts (p := wd) hn
    refine hjoin c r hc hlc ?_
    unfold joinR
    rw [named_nameS hd hp hR, if_neg (by show ¬ (1 = 2); decide)]
  · split at ha
    · next ho =>
      have hr := op_readS hd (by omega) hR ho
      obtain ⟨c, r, hc, _, h1, h2, h3, h4, h5, h6, h7, h8⟩ := op_list ho
      have hlk : lookB s (q + 1) = c.toNat := look_cons (l := r ++ R) (by rw [hd, hc]; rfl)
      unfold hashR
      rw [hlk, if_neg h8, if_neg h7, if_neg (by rw [h1]; simp), hr, if_neg (by rw [hc]; simp), hmid]
    · split at ha
      · next hsf =>
        unfold keysL at ha
        split at ha
        · next hal =>
          have hk : keyT (spl (Lib.trimSuffix wd [58])) = wd := by
            rw [spl_key]
            unfold Lib.hasSuffix at hsf
            obtain ⟨t, ht⟩ := List.isSuffixOf_iff_suffix.1 hsf
            unfold Lib.trimSuffix Lib.hasSuffix
            rw [if_pos hsf, ← ht]
            simp
          have hne : ∀ p ∈ spl (Lib.trimSuffix wd [58]), nameL p = true := fun p hp => List.all_eq_true.1 hal p hp
          generalize spl (Lib.trimSuffix wd [58]) = ps at hk hne
          cases ps with
          | nil => subst hk; exact absurd hsf (by decide)
          | cons p ps =>
            obtain ⟨hp, c, r, rfl, hlc⟩ := name_parts (hne p (List.mem_cons_self ..))
            refine hjoin c (r ++ 58 :: keyT ps) hk.symm hlc ?_
            have hd2 : (sb s).drop (q + 1) = (c :: r) ++ 58 :: (keyT ps ++ R) := by rw [hd, ← hk, keyT, List.append_assoc]; rfl
            have h4 : ∀ d t, keyT ps ++ R = d :: t → d.toNat ≠ 61 := by
              intro d t e
              cases ps with
              | nil => rcases hR d t e with rfl | rfl <;> decide
              | cons p' ps' =>
                obtain ⟨_, c', r', rfl, h5⟩ := name_parts (hne p' (List.mem_cons_of_mem _ (List.mem_cons_self ..)))
                rw [keyT] at e
                injection e with e _
                rw [← e]
                exact letter_not61 h5
            have hl2 := congrArg List.length hk
            simp only [keyT, List.length_append, List.length_cons] at hl2
            have hl3 := congrArg List.length hd2
            simp only [List.length_drop, sb_len, List.length_append, List.length_cons] at hl3
            unfold joinR
            rw [named_key hd2 hp h4, if_pos rfl]
            show joinW _ (q + 1 + (c :: r).length + 1) = _
            rw [join_keyS hR ps _ (by rw [← List.drop_drop, drop_more hd2]; rfl) (fun q hq => hne q (List.mem_cons_of_mem _ hq)) (by simp only [List.length_cons]; omega)]
            simp only [List.length_cons]
            omega
        · omega
      · omega
theorem mark_byte : ∀ i : Fin 7, isOpc (marksL.getD i 0) = false ∧ marksL.getD i 0 ≠ 124 ∧ letterN (marksL.getD i 0).toNat = false ∧ digitN (marksL.getD i 0).toNat = false ∧ (marksL.getD i 0).toNat ≠ 36 ∧ (marksL.getD i 0).toNat ≠ 39 ∧ (marksL.getD i 0).toNat ≠ 35 ∧ Lib.indexByte marksL (marksL.getD i 0) = i ∧ blankN (marksL.getD i 0).toNat = false ∧ marksL.getD i 0 ≠ 34 := by decide +kernel
theorem at_mark {s : ByteArray} {q : Nat} {R : List UInt8} (i : Nat) (hi : i < 7) (h : (sb s).drop q = marksL.getD i 0 :: R) : tokAt s q = .inl (8 + i, [], 0, q, q + 1) := by
  obtain ⟨h1, h2, h3, h4, h5, h6, h7, h8, _⟩ := mark_byte ⟨i, hi⟩
  change isOpc (marksL.getD i 0) = false at h1
  change marksL.getD i 0 ≠ 124 at h2
  change letterN (marksL.getD i 0).toNat = false at h3
  change digitN (marksL.getD i 0).toNat = false at h4
  change (marksL.getD i 0).toNat ≠ 36 at h5
  change (marksL.getD i 0).toNat ≠ 39 at h6
  change (marksL.getD i 0).toNat ≠ 35 at h7
  change Lib.indexByte marksL (marksL.getD i 0) = (i : Int) at h8
  have ho := op_none (c := (marksL.getD i 0).toNat) (by rw [UInt8.ofNat_toNat]; exact h) (by rw [UInt8.ofNat_toNat]; exact h1) (by rw [UInt8.ofNat_toNat]; exact h2)
  unfold tokAt
  rw [if_neg (by have := sizeS h; omega), look_cons h, if_neg (by rw [h3]; simp), if_neg (by rw [h4]; simp), if_neg h5, if_neg h6, if_neg h7]
  unfold markR
  rw [ho, if_neg (by simp), look_cons h, UInt8.ofNat_toNat, h8, if_pos (by omega), Int.toNat_natCast]
  rfl
theorem at_colon {s : ByteArray} {q : Nat} {R : List UInt8} (h : (sb s).drop q = 58 :: R) : tokAt s q = if lookB s (q + 1) ≠ 61 then .inl (16, [], 0, q, q + 1) else .inl (7, [], 0, q, q + 2) := by
  have ho := op_none (c := 58) h (by decide +kernel) (by decide)
  have hlk : lookB s q = 58 := look_cons h
  unfold tokAt
  rw [if_neg (by have := sizeS h; omega), hlk, if_neg (by decide), if_neg (by decide), if_neg (by decide), if_neg (by decide), if_neg (by decide)]
  unfold markR
  rw [ho, if_neg (by simp), hlk, if_neg (by decide), if_neg (by decide)]
  split <;> rfl
/-- a token's text, with a blank or a note or nothing behind it, is read as the token -/
theorem tok_read {k : Nat} {wd : List UInt8} {n : Int} (hv : TokV k wd n) (hk : k ≠ 0) {s : ByteArray} {q : Nat} {R : List UInt8} (h : (sb s).drop q = writL k wd n ++ R) (hR : Sep R) (hq : q ≤ s.size) :
    tokAt s q = .inl (k, wd, n, q, q + (writL k wd n).length) ∧ Beg (writL k wd n) := by
  rcases hv with ⟨rfl, rfl, hl, hp, c, r, hc, hlc⟩ | ⟨rfl, rfl, hl, nm, rfl, hp, c, r, hc, hlc⟩ | ⟨rfl, rfl, hr, h0⟩ | ⟨rfl, rfl, hl⟩ | ⟨rfl, rfl, hl⟩ | ⟨rfl, rfl, ho⟩ | ⟨hk2, rfl, rfl⟩
  · exact ⟨at_name h hR hl hp hc hlc, c, r, hc, (letter_f hlc).2.1, ne_of_toNat 34 rfl (letter_f hlc).2.2.1⟩
  · exact ⟨at_key h hR (by simpa using hl) hp hc hlc, c, r ++ [58], by rw [hc]; rfl, (letter_f hlc).2.1, ne_of_toNat 34 rfl (letter_f hlc).2.2.1⟩
  · obtain ⟨hall, c, r, hc⟩ := itoa_dig hr h0
    have hdc : digitN c.toNat = true := by rw [hc, List.all_cons, Bool.and_eq_true] at hall; exact hall.1
    exact ⟨at_int h hR hr h0, c, r, hc, (digit_f hdc).2.1, ne_of_toNat 34 rfl (digit_f hdc).2.2⟩
  · exact ⟨at_text h hR hl, 39, dbl wd ++ [39], rfl, rfl, by decide⟩
  · by_cases ha : arityL (mkB wd) < 0
    · have e : writL 5 wd 0 = 35 :: quoL wd := by show (if arityL (mkB wd) < 0 then 35 :: quoL wd else 35 :: wd) = _; rw [if_pos ha]
      rw [e] at h ⊢
      exact ⟨at_quoted h hR hl, 35, quoL wd, rfl, rfl, by decide⟩
    · have e : writL 5 wd 0 = 35 :: wd := by show (if arityL (mkB wd) < 0 then 35 :: quoL wd else 35 :: wd) = _; rw [if_neg ha]
      rw [e] at h ⊢
      exact ⟨at_sym h hR hq hl (by omega), 35, wd, rfl, rfl, by decide⟩
  · obtain ⟨c, r, hc, _, h1, h2, h3, h4, _⟩ := op_list ho
    exact ⟨at_op h hR ho hq, c, r, hc, h3, ne_of_toNat 34 rfl h4⟩
  · rcases hk2 with rfl | ⟨h7, h16⟩
    · exact absurd rfl hk
    · by_cases hm : 8 ≤ k ∧ k ≤ 14
      · have e : writL k [] 0 = [marksL.getD (k - 8) 0] := by
          unfold writL
          rw [if_neg (by omega), if_neg (by omega), if_neg (by omega), if_neg (by omega), if_neg (by omega), if_pos hm]
        rw [e] at h ⊢
        have hb := mark_byte ⟨k - 8, by omega⟩
        have := at_mark (k - 8) (by omega) h
        rw [show 8 + (k - 8) = k by omega] at this
        exact ⟨this, _, _, rfl, hb.2.2.2.2.2.2.2.2.1, hb.2.2.2.2.2.2.2.2.2⟩
      · obtain rfl | rfl | rfl : k = 7 ∨ k = 15 ∨ k = 16 := by omega
        · have h1 : (sb s).drop q = 58 :: 61 :: R := h
          have h2 : (sb s).drop (q + 1) = 61 :: R := by rw [← List.drop_drop, h1]; rfl
          refine ⟨?_, 58, [61], rfl, rfl, by decide⟩
          rw [at_colon h1, look_cons h2]
          rfl
        · have h1 : (sb s).drop q = 35 :: 40 :: R := h
          have h2 : (sb s).drop (q + 1) = 40 :: R := by rw [← List.drop_drop, h1]; rfl
          refine ⟨?_, 35, [40], rfl, rfl, by decide⟩
          rw [at_hash h1]
          unfold hashR
          rw [look_cons h2]
          rfl
        · have h1 : (sb s).drop q = 58 :: R := h
          have h2 : (sb s).drop (q + 1) = R := by rw [← List.drop_drop, h1]; rfl
          refine ⟨?_, 58, [], rfl, rfl, by decide⟩
          have hlk := hR.look h2
          rw [at_colon h1, if_pos (by omega)]
          rfl
end Go.Proofs.YtijmigcgndlfcaaDoor.Fl
