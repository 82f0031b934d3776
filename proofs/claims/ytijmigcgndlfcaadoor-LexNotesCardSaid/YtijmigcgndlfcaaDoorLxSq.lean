/-
  The lexer: a token as it is written is read back; what a token of a text is.
-/
import Derived.Test.YtijmigcgndlfcaaDoorLxSp
namespace Go.Proofs.YtijmigcgndlfcaaDoor.Fl
open Go.RowKit

theorem letter_facts : ∀ n : Fin 256, letterN n = true → digitN n = false ∧ blankN n = false ∧ n.1 ≠ 34 ∧ n.1 ≠ 40 ∧ n.1 ≠ 39 ∧ n.1 ≠ 58 := by decide +kernel
theorem letter_f {c : UInt8} (h : letterN c.toNat = true) : digitN c.toNat = false ∧ blankN c.toNat = false ∧ c.toNat ≠ 34 ∧ c.toNat ≠ 40 ∧ c.toNat ≠ 39 ∧ c.toNat ≠ 58 := letter_facts ⟨c.toNat, c.toNat_lt⟩ h
theorem digit_facts : ∀ n : Fin 256, digitN n = true → letterN n = false ∧ blankN n = false ∧ n.1 ≠ 34 := by decide +kernel
theorem digit_f {c : UInt8} (h : digitN c.toNat = true) : letterN c.toNat = false ∧ blankN c.toNat = false ∧ c.toNat ≠ 34 := digit_facts ⟨c.toNat, c.toNat_lt⟩ h
theorem ne_of_toNat {c : UInt8} {n : Nat} (d : UInt8) (hd : d.toNat = n) (h : c.toNat ≠ n) : c ≠ d := fun e => h (by rw [e, hd])
theorem mid_all (s : ByteArray) (j : Nat) : midL s j s.size = (sb s).drop j := by
  unfold midL; rw [List.take_of_length_le (by rw [sb_len]; exact Nat.le_refl _)]
theorem quo_read {s : ByteArray} {j : Nat} {wd : List UInt8} (h : (sb s).drop j = dbl wd ++ [39]) (hj : j ≤ s.size) : quoA j ((sb s).drop j) = some s.size ∧ unq (midL s j (s.size - 1)) = wd := by
  have hl := congrArg List.length h
  simp only [List.length_drop, sb_len, List.length_append, List.length_cons, List.length_nil] at hl
  refine ⟨by rw [h, quoA_dbl]; congr 1; omega, ?_⟩
  unfold midL
  rw [List.drop_take, h, List.take_left' (by omega), unq_dbl]
theorem back_name {wd : List UInt8} (hl : wd.length ≤ 64) (hp : partA wd = true) {c : UInt8} {r : List UInt8} (hc : wd = c :: r) (hlc : letterN c.toNat = true) : tokR (mkB wd) 0 = .inl (1, wd, 0, 0, wd.length) := by
  have hsb : sb (mkB wd) = wd := sb_mk wd
  have hn := named_name (s := mkB wd) (j := 0) (by rw [hsb]; rfl) hp
  rw [Nat.zero_add] at hn
  obtain ⟨_, hb, h34, _⟩ := letter_f hlc
  rw [skip_zero (by rw [hsb, hc]) hb (ne_of_toNat 34 rfl h34)]
  have hlk : lookB (mkB wd) 0 = c.toNat := look_cons (l := r) (by rw [hsb, hc]; rfl)
  have hm : midL (mkB wd) 0 wd.length = wd := by unfold midL; rw [hsb, List.take_length]; rfl
  unfold tokAt
  rw [if_neg (by rw [mkB_size, hc]; simp), hlk, if_pos hlc, hn, hm, if_neg (by omega)]
theorem back_key {nm : List UInt8} (hl : nm.length + 1 ≤ 64) (hp : partA nm = true) {c : UInt8} {r : List UInt8} (hc : nm = c :: r) (hlc : letterN c.toNat = true) : tokR (mkB (nm ++ [58])) 0 = .inl (2, nm ++ [58], 0, 0, (nm ++ [58]).length) := by
  have hsb : sb (mkB (nm ++ [58])) = nm ++ [58] := sb_mk _
  have hn := named_key (s := mkB (nm ++ [58])) (j := 0) (rest := []) (by rw [hsb]; rfl) hp (fun _ _ e => by cases e)
  rw [Nat.zero_add] at hn
  obtain ⟨_, hb, h34, _⟩ := letter_f hlc
  rw [skip_zero (c := c) (l := r ++ [58]) (by rw [hsb, hc]; rfl) hb (ne_of_toNat 34 rfl h34)]
  have hlk : lookB (mkB (nm ++ [58])) 0 = c.toNat := look_cons (l := r ++ [58]) (by rw [hsb, hc]; rfl)
  have hll : (nm ++ [58]).length = nm.length + 1 := by simp
  have hm : midL (mkB (nm ++ [58])) 0 (nm.length + 1) = nm ++ [58] := by unfold midL; rw [hsb, ← hll, List.take_length]; rfl
  unfold tokAt
  rw [if_neg (by rw [mkB_size, hc]; simp), hlk, if_pos hlc, hn, hm, if_neg (by omega), hll]
theorem back_int {n : Int} (hr : InR n) (h0 : 0 ≤ n) : tokR (mkB (Lib.itoa n)) 0 = .inl (3, [], n, 0, (Lib.itoa n).length) := by
  obtain ⟨hf, hsp⟩ := itoa_form n
  obtain ⟨hpv, hpe⟩ := itoa_pv hr
  have hneg : isNeg (Lib.itoa n) = false := by rw [(itoa_parts n).2]; simp; omega
  have hbody : body (Lib.itoa n) = Lib.itoa n := by
    unfold isNeg at hneg
    unfold body
    rw [if_neg]
    intro h
    rw [h] at hneg
    simp at hneg
  unfold form at hf
  rw [hbody, Bool.and_eq_true] at hf
  generalize Lib.itoa n = l at *
  have hsb : sb (mkB l) = l := sb_mk l
  cases l with
  | nil => simp at hf
  | cons c r =>
    have hall : ((c :: r).all fun c => digitN c.toNat) = true := hf.1
    have hc : digitN c.toNat = true := by rw [List.all_cons, Bool.and_eq_true] at hall; exact hall.1
    obtain ⟨hlc, hb, h34⟩ := digit_f hc
    rw [skip_zero hsb hb (ne_of_toNat 34 rfl h34)]
    have hlk : lookB (mkB (c :: r)) 0 = c.toNat := look_cons (l := r) (by rw [hsb]; rfl)
    have hrun := run_app (f := digitN) (s := mkB (c :: r)) (j := 0) (l := c :: r) (m := []) (by rw [hsb, List.append_nil]; rfl) hall (fun _ _ e => by cases e)
    rw [Nat.zero_add] at hrun
    have hm : midL (mkB (c :: r)) 0 (c :: r).length = c :: r := by unfold midL; rw [hsb, List.take_length]; rfl
    unfold tokAt
    rw [if_neg (by rw [mkB_size]; simp), hlk, if_neg (by rw [hlc]; simp), if_pos hc, hrun, hm, if_pos hpe, hpv]
theorem back_text {wd : List UInt8} (hl : wd.length ≤ 4096) : tokR (mkB (quoL wd)) 0 = .inl (4, wd, 0, 0, (quoL wd).length) := by
  have hsb : sb (mkB (quoL wd)) = 39 :: (dbl wd ++ [39]) := sb_mk _
  rw [skip_zero hsb rfl (by decide)]
  have hlk : lookB (mkB (quoL wd)) 0 = 39 := look_cons (j := 0) (c := 39) (l := dbl wd ++ [39]) (by rw [hsb]; rfl)
  have hsz : (mkB (quoL wd)).size = (quoL wd).length := mkB_size _
  have hq := quo_read (s := mkB (quoL wd)) (j := 1) (wd := wd) (by rw [hsb]; rfl) (by rw [hsz]; simp [quoL])
  unfold tokAt
  rw [if_neg (by rw [hsz]; simp [quoL]), hlk, if_neg (by decide), if_neg (by decide), if_neg (by decide), if_pos rfl, Nat.zero_add, hq.1]
  simp only [hq.2]
  rw [if_neg (by omega), hsz]
theorem back_op {wd : List UInt8} (h : isOpL wd = true) : tokR (mkB wd) 0 = .inl (6, wd, 0, 0, wd.length) := by
  have hsb : sb (mkB wd) = wd := sb_mk wd
  have hr := op_read (s := mkB wd) (j := 0) (l := wd) (by rw [hsb]; rfl) (Nat.zero_le _) h
  obtain ⟨c, r, rfl, _, h1, h2, h3, h4, h5, h6, h7, h8⟩ := op_list h
  rw [skip_zero hsb h3 (ne_of_toNat 34 rfl h4)]
  have hlk : lookB (mkB (c :: r)) 0 = c.toNat := look_cons (l := r) (by rw [hsb]; rfl)
  have hm : midL (mkB (c :: r)) 0 (c :: r).length = c :: r := by unfold midL; rw [hsb, List.take_length]; rfl
  unfold tokAt
  rw [if_neg (by rw [mkB_size]; simp), hlk, if_neg (by rw [h1]; simp), if_neg (by rw [h2]; simp), if_neg h6, if_neg h7, if_neg h5]
  unfold markR
  rw [hr, if_pos (by simp), Nat.zero_add, hm]
  rfl
theorem hash_start {l : List UInt8} : tokR (mkB (35 :: l)) 0 = ofKw 0 (hashR (mkB (35 :: l)) 0) := by
  have hsb : sb (mkB (35 :: l)) = 35 :: l := sb_mk _
  rw [skip_zero hsb rfl (by decide)]
  have hlk : lookB (mkB (35 :: l)) 0 = 35 := look_cons (j := 0) (c := 35) (l := l) (by rw [hsb]; rfl)
  unfold tokAt
  rw [if_neg (by rw [mkB_size]; simp), hlk, if_neg (by decide), if_neg (by decide), if_neg (by decide), if_neg (by decide), if_pos rfl]
theorem back_quoted {wd : List UInt8} (hl : wd.length ≤ 64) : tokR (mkB (35 :: quoL wd)) 0 = .inl (5, wd, 0, 0, (35 :: quoL wd).length) := by
  rw [hash_start]
  have hsb : sb (mkB (35 :: quoL wd)) = 35 :: 39 :: (dbl wd ++ [39]) := sb_mk _
  have hlk : lookB (mkB (35 :: quoL wd)) 1 = 39 := look_cons (j := 1) (c := 39) (l := dbl wd ++ [39]) (by rw [hsb]; rfl)
  have hsz : (mkB (35 :: quoL wd)).size = (35 :: quoL wd).length := mkB_size _
  have hq := quo_read (s := mkB (35 :: quoL wd)) (j := 2) (wd := wd) (by rw [hsb]; rfl) (by rw [hsz]; simp [quoL])
  unfold hashR
  rw [Nat.zero_add, Nat.zero_add, hlk, if_neg (by decide), if_pos rfl, hq.1]
  simp only [hq.2]
  rw [if_neg (by omega), hsz]
  rfl
theorem back_sym {wd : List UInt8} (hl : wd.length ≤ 64) (ha : 0 ≤ arityL (mkB wd)) : tokR (mkB (35 :: wd)) 0 = .inl (5, wd, 0, 0, (35 :: wd).length) := by
  rw [hash_start]
  have hsb : sb (mkB (35 :: wd)) = 35 :: wd := sb_mk _
  have hsw : sb (mkB wd) = wd := sb_mk wd
  have hsz : (mkB (35 :: wd)).size = wd.length + 1 := mkB_size _
  have hd : (sb (mkB (35 :: wd))).drop 1 = wd := by rw [hsb]; rfl
  have hmid : midL (mkB (35 :: wd)) 1 (wd.length + 1) = wd := by rw [← hsz, mid_all, hd]
  have hjoin : ∀ c r, wd = c :: r → letterN c.toNat = true → joinR (mkB (35 :: wd)) 1 = wd.length + 1 → hashR (mkB (35 :: wd)) 0 = .inl (5, wd, wd.length + 1) := by
    intro c r hc hlc hj
    obtain ⟨_, _, _, h40, h39, _⟩ := letter_f hlc
    have hlk : lookB (mkB (35 :: wd)) 1 = c.toNat := look_cons (l := r) (by rw [hd, hc])
    unfold hashR
    rw [Nat.zero_add, hlk, if_neg h40, if_neg h39, if_pos hlc, hj, hmid, if_neg (by omega)]
  suffices h : hashR (mkB (35 :: wd)) 0 = .inl (5, wd, wd.length + 1) by rw [h]; rfl
  unfold arityL at ha
  rw [mkB_size, if_neg (by omega), hsw] at ha
  split at ha
  · next hn =>
    obtain ⟨hp, c, r, hc, hlc⟩ := name_parts (p := wd) hn
    refine hjoin c r hc hlc ?_
    unfold joinR
    rw [named_name hd hp, if_neg (by show ¬ (1 = 2); decide)]
    show 1 + wd.length = _
    omega
  · split at ha
    · next ho =>
      have hr := op_read (s := mkB (35 :: wd)) (j := 1) hd (by rw [hsz]; omega) ho
      obtain ⟨c, r, hc, _, h1, h2, h3, h4, h5, h6, h7, h8⟩ := op_list ho
      have hlk : lookB (mkB (35 :: wd)) 1 = c.toNat := look_cons (l := r) (by rw [hd, hc])
      unfold hashR
      rw [Nat.zero_add, hlk, if_neg h8, if_neg h7, if_neg (by rw [h1]; simp), hr, if_neg (by rw [hc]; simp), show 1 + wd.length = wd.length + 1 by omega, hmid]
    · split at ha
      · next hsf =>
        unfold keysL at ha
        split at ha
        · next hal =>
          have hk : keyT (spl (Lib.trimSuffix wd [58])) = wd := by
            rw [spl_key]
            unfold Lib.hasSuffix at hsf
            obtain ⟨t, ht⟩ := List.isSuffixOf_iff_suffix.1 hsf
            unfold Lib.trimSuffix Lib.hasSuffix
            rw [if_pos hsf, ← ht]
            simp
          have hne : ∀ p ∈ spl (Lib.trimSuffix wd [58]), nameL p = true := fun p hp => List.all_eq_true.1 hal p hp
          generalize spl (Lib.trimSuffix wd [58]) = ps at hk hne
          cases ps with
          | nil => subst hk; exact absurd hsf (by decide)
          | cons p ps =>
            obtain ⟨hp, c, r, rfl, hlc⟩ := name_parts (hne p (List.mem_cons_self ..))
            refine hjoin c (r ++ 58 :: keyT ps) hk.symm hlc ?_
            have hd2 : (sb (mkB (35 :: wd))).drop 1 = (c :: r) ++ 58 :: keyT ps := by rw [hd, ← hk]; rfl
            have h4 : ∀ d t, keyT ps = d :: t → d.toNat ≠ 61 := by
              intro d t e
              cases ps with
              | nil => cases e
              | cons p' ps' =>
                obtain ⟨_, c', r', rfl, h5⟩ := name_parts (hne p' (List.mem_cons_of_mem _ (List.mem_cons_self ..)))
                rw [keyT] at e
                injection e with e _
                rw [← e]
                exact letter_not61 h5
            have hl2 := congrArg List.length hk
            simp only [keyT, List.length_append, List.length_cons] at hl2
            unfold joinR
            rw [named_key hd2 hp h4, if_pos rfl]
            show joinW _ (1 + (c :: r).length + 1) = _
            rw [join_key ps _ (by rw [← List.drop_drop, drop_more hd2]; rfl) (fun q hq => hne q (List.mem_cons_of_mem _ hq)) (by rw [hsz]; simp only [List.length_cons]; omega), hsz]
        · omega
      · omega
/-- what a token is written as is read back as it -/
theorem spell_back {k : Nat} {wd : List UInt8} {n : Int} (h : TokV k wd n) : tokR (mkB (writL k wd n)) 0 = .inl (k, wd, n, 0, (writL k wd n).length) := by
  rcases h with ⟨rfl, rfl, hl, hp, c, r, hc, hlc⟩ | ⟨rfl, rfl, hl, nm, rfl, hp, c, r, hc, hlc⟩ | ⟨rfl, rfl, hr, h0⟩ | ⟨rfl, rfl, hl⟩ | ⟨rfl, rfl, hl⟩ | ⟨rfl, rfl, ho⟩ | ⟨hk, rfl, rfl⟩
  · exact back_name hl hp hc hlc
  · exact back_key (by simpa using hl) hp hc hlc
  · exact back_int hr h0
  · exact back_text hl
  · show tokR (mkB (if arityL (mkB wd) < 0 then 35 :: quoL wd else 35 :: wd)) 0 = .inl (5, wd, 0, 0, (if arityL (mkB wd) < 0 then 35 :: quoL wd else 35 :: wd).length)
    split
    · exact back_quoted hl
    · exact back_sym hl (by omega)
  · exact back_op ho
  · rcases hk with rfl | ⟨h7, h16⟩
    · decide +kernel
    · obtain rfl | rfl | rfl | rfl | rfl | rfl | rfl | rfl | rfl | rfl : k = 7 ∨ k = 8 ∨ k = 9 ∨ k = 10 ∨ k = 11 ∨ k = 12 ∨ k = 13 ∨ k = 14 ∨ k = 15 ∨ k = 16 := by omega
      all_goals decide +kernel
end Go.Proofs.YtijmigcgndlfcaaDoor.Fl
