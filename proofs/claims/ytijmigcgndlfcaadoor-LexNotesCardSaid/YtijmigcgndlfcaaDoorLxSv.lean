/-
  The lexer: what a token of a text is; where it stands.
-/
import Derived.Test.YtijmigcgndlfcaaDoorLxSq
namespace Go.Proofs.YtijmigcgndlfcaaDoor.Fl
open Go.RowKit

theorem drop_look {s : ByteArray} {q c : Nat} (h : lookB s q = c) (hc : c ≠ 0) : (sb s).drop q = UInt8.ofNat c :: (sb s).drop (q + 1) := by
  obtain ⟨hp, e⟩ := lookB_pos h hc
  rw [drop_at hp]
  congr 1
  rw [← e, UInt8.ofNat_toNat]
theorem mid_drop (s : ByteArray) (a n : Nat) : midL s a (a + n) = ((sb s).drop a).take n := by
  unfold midL
  rw [List.drop_take, show a + n - a = n by omega]
theorem run_mid (f : Nat → Bool) (s : ByteArray) (q : Nat) : midL s q (runE f s q) = ((sb s).drop q).takeWhile fun c => f c.toNat := by
  unfold runE
  rw [mid_drop]
  exact (List.prefix_iff_eq_take.1 (List.takeWhile_prefix _)).symm
theorem run_split (f : Nat → Bool) (s : ByteArray) (q : Nat) : (sb s).drop q = midL s q (runE f s q) ++ (sb s).drop (runE f s q) := by
  conv => lhs; rw [← List.take_append_drop (runE f s q - q) ((sb s).drop q)]
  have h : q ≤ runE f s q := by unfold runE; omega
  rw [List.drop_drop, show q + (runE f s q - q) = runE f s q by omega]
  congr 1
  rw [← mid_drop, show q + (runE f s q - q) = runE f s q by omega]
theorem quoA_form : ∀ (n : Nat) (l : List UInt8) (j e : Nat), l.length ≤ n → quoA j l = some e → ∃ m rest, l = dbl m ++ 39 :: rest ∧ e = j + (dbl m).length + 1
  | 0, l, j, e, hl, h => by
    have : l = [] := List.eq_nil_of_length_eq_zero (by omega)
    subst this
    cases h
  | n + 1, [], j, e, hl, h => by cases h
  | n + 1, [c], j, e, hl, h => by
    rw [quoA] at h
    split at h
    · next hc => injection h with h; exact ⟨[], [], by rw [hc]; rfl, by rw [← h]; rfl⟩
    · cases h
  | n + 1, c :: d :: l, j, e, hl, h => by
    rw [quoA] at h
    split at h
    · next hc =>
      split at h
      · next hd =>
        obtain ⟨m, rest, h1, h2⟩ := quoA_form n l (j + 2) e (by simp at hl; omega) h
        exact ⟨39 :: m, rest, by rw [hc, hd, h1]; rfl, by rw [h2]; simp [dbl]; omega⟩
      · injection h with h
        exact ⟨[], d :: l, by rw [hc]; rfl, by rw [← h]; rfl⟩
    · next hc =>
      obtain ⟨m, rest, h1, h2⟩ := quoA_form n (d :: l) (j + 1) e (by simp at hl ⊢; omega) h
      exact ⟨c :: m, rest, by rw [h1, dbl, if_neg hc]; rfl, by rw [h2, dbl, if_neg hc, List.length_cons]; omega⟩
theorem quo_mid {s : ByteArray} {a p : Nat} (h : quoA a ((sb s).drop a) = some p) : ∃ m rest, (sb s).drop a = dbl m ++ 39 :: rest ∧ p = a + (dbl m).length + 1 ∧ unq (midL s a (p - 1)) = m := by
  obtain ⟨m, rest, h1, h2⟩ := quoA_form _ _ _ _ (Nat.le_refl _) h
  refine ⟨m, rest, h1, h2, ?_⟩
  rw [show p - 1 = a + (dbl m).length by omega, mid_drop, h1, List.take_left' rfl, unq_dbl]
theorem opF_ok {s : ByteArray} {p : Nat} : ∀ k, opF s p k ≠ 0 → isOpL (midL s p (p + opF s p k)) = true
  | 0, h => absurd rfl h
  | k + 1, h => by
    rw [opF] at h ⊢
    split
    · next hc => rw [if_pos hc] at h; exact hc.2
    · next hc => rw [if_neg hc] at h; exact opF_ok k h
theorem marks_facts : ∀ n : Fin 256, 0 ≤ Lib.indexByte marksL (UInt8.ofNat n) → (Lib.indexByte marksL (UInt8.ofNat n)).toNat < 7 ∧ marksL.getD (Lib.indexByte marksL (UInt8.ofNat n)).toNat 0 = UInt8.ofNat n ∧ n.1 ≠ 0 := by decide +kernel
theorem inR_byte {c : Nat} (h : c < 256) : InR (c : Int) ∧ (0 : Int) ≤ c := by unfold InR; omega
theorem tokAt_v {s : ByteArray} {q k q0 p : Nat} {wd : List UInt8} {n : Int} (hq : q ≤ s.size) (h : tokAt s q = .inl (k, wd, n, q0, p)) : TokV k wd n ∧ (k ≠ 3 → k ≠ 5 → midL s q p = writL k wd n) := by
  unfold tokAt at h
  split at h
  · simp only [Sum.inl.injEq, Prod.mk.injEq] at h
    obtain ⟨rfl, rfl, rfl, rfl, rfl⟩ := h
    exact ⟨.inr (.inr (.inr (.inr (.inr (.inr ⟨.inl rfl, rfl, rfl⟩))))), fun _ _ => mid_same s _⟩
  next he =>
  split at h
  · next hl =>
    split at h
    · cases h
    · next h64 =>
      simp only [Sum.inl.injEq, Prod.mk.injEq] at h
      obtain ⟨rfl, rfl, rfl, rfl, rfl⟩ := h
      have hpos : lookB s q ≠ 0 := fun e => by rw [e] at hl; cases hl
      have hd := drop_look rfl hpos
      have hrm := run_mid partN s q
      have hpa : partA (midL s q (runE partN s q)) = true := by rw [hrm]; exact List.all_takeWhile
      have hlc : letterN (UInt8.ofNat (lookB s q)).toNat = true := by
        rw [UInt8.toNat_ofNat', Nat.mod_eq_of_lt (lookB_lt s q)]; exact hl
      have hcons : ∃ c r, midL s q (runE partN s q) = c :: r ∧ letterN c.toNat = true := by
        rw [hrm, hd, List.takeWhile_cons, if_pos (letter_part hlc)]
        exact ⟨_, _, rfl, hlc⟩
      have hsp := run_split partN s q
      have hle := (runE_le (f := partN) hq).1
      unfold namedR at h64 ⊢
      split
      · next hk =>
        rw [if_pos hk] at h64
        have hd2 := drop_look hk.1 (by decide)
        have hmid : midL s q (runE partN s q + 1) = midL s q (runE partN s q) ++ [58] := by
          rw [show runE partN s q + 1 = q + (runE partN s q - q + 1) by omega, mid_drop, hsp, hd2]
          have hll : (midL s q (runE partN s q)).length = runE partN s q - q := by
            rw [hrm]; unfold runE; omega
          rw [← hll, List.take_append, List.take_of_length_le (by omega), show (midL s q (runE partN s q)).length + 1 - (midL s q (runE partN s q)).length = 1 by omega]
          rfl
        refine ⟨.inr (.inl ⟨rfl, rfl, by omega, _, hmid, hpa, hcons⟩), fun _ _ => rfl⟩
      · next hk =>
        rw [if_neg hk] at h64
        exact ⟨.inl ⟨rfl, rfl, by omega, hpa, hcons⟩, fun _ _ => rfl⟩
  split at h
  · next hdg =>
    split at h
    · next hpe =>
      simp only [Sum.inl.injEq, Prod.mk.injEq] at h
      obtain ⟨rfl, rfl, rfl, rfl, rfl⟩ := h
      refine ⟨.inr (.inr (.inl ⟨rfl, rfl, ?_⟩)), fun h _ => absurd rfl h⟩
      have hrm := run_mid digitN s q
      have hall : ((midL s q (runE digitN s q)).all fun c => digitN c.toNat) = true := by rw [hrm]; exact List.all_takeWhile
      generalize midL s q (runE digitN s q) = l at hpe hall
      unfold pe at hpe
      split at hpe
      · next hf =>
        split at hpe
        · next hin =>
          have hneg : isNeg l = false := by
            cases l with
            | nil => rfl
            | cons c r =>
              rw [List.all_cons, Bool.and_eq_true] at hall
              unfold isNeg
              have : c ≠ 45 := fun e => by rw [e] at hall; exact absurd hall.1 (by decide)
              simp [this]
          unfold pv
          rw [if_pos hf, if_pos hin]
          refine ⟨hin, ?_⟩
          unfold spelt
          rw [hneg]
          simp
        · cases hpe
      · cases hpe
    · cases h
  split at h
  · split at h
    · cases h
    · simp only [Sum.inl.injEq, Prod.mk.injEq] at h
      obtain ⟨rfl, rfl, rfl, rfl, rfl⟩ := h
      exact ⟨.inr (.inr (.inl ⟨rfl, rfl, inR_byte (lookB_lt _ _)⟩)), fun h _ => absurd rfl h⟩
  split at h
  · next h39 =>
    split at h
    · cases h
    · next x hx =>
      split at h
      · cases h
      · next h4 =>
        simp only [Sum.inl.injEq, Prod.mk.injEq] at h
        obtain ⟨rfl, rfl, rfl, rfl, rfl⟩ := h
        obtain ⟨m, rest, h1, h2, h3⟩ := quo_mid hx
        rw [h3] at h4 ⊢
        refine ⟨.inr (.inr (.inr (.inl ⟨rfl, rfl, by omega⟩))), fun _ _ => ?_⟩
        have hd := drop_look h39 (by decide)
        show midL s q x = quoL m
        rw [h2, show q + 1 + (dbl m).length + 1 = q + ((dbl m).length + 2) by omega, mid_drop, hd, h1, List.take_succ_cons, List.take_append, List.take_of_length_le (by omega), show (dbl m).length + 1 - (dbl m).length = 1 by omega]
        rfl
  split at h
  · next h35 =>
    obtain ⟨h1, rfl, _⟩ := ofKw_inl h
    have hd := drop_look h35 (by decide)
    unfold hashR at h1
    split at h1
    · next h40 =>
      simp only [Sum.inl.injEq, Prod.mk.injEq] at h1
      obtain ⟨rfl, rfl, rfl⟩ := h1
      have hd2 := drop_look h40 (by decide)
      refine ⟨.inr (.inr (.inr (.inr (.inr (.inr ⟨.inr ⟨by decide, by decide⟩, rfl, rfl⟩))))), fun _ _ => ?_⟩
      rw [mid_drop, hd, hd2]
      rfl
    split at h1
    · split at h1
      · cases h1
      · split at h1
        · cases h1
        · next h64 =>
          simp only [Sum.inl.injEq, Prod.mk.injEq] at h1
          obtain ⟨rfl, rfl, rfl⟩ := h1
          exact ⟨.inr (.inr (.inr (.inr (.inl ⟨rfl, rfl, by omega⟩)))), fun _ h => absurd rfl h⟩
    split at h1
    · split at h1
      · cases h1
      · next h64 =>
        simp only [Sum.inl.injEq, Prod.mk.injEq] at h1
        obtain ⟨rfl, rfl, rfl⟩ := h1
        exact ⟨.inr (.inr (.inr (.inr (.inl ⟨rfl, rfl, by omega⟩)))), fun _ h => absurd rfl h⟩
    split at h1
    · cases h1
    · simp only [Sum.inl.injEq, Prod.mk.injEq] at h1
      obtain ⟨rfl, rfl, rfl⟩ := h1
      have := (opF_le s (q + 1) (by omega) 2).2
      refine ⟨.inr (.inr (.inr (.inr (.inl ⟨rfl, rfl, ?_⟩)))), fun _ h => absurd rfl h⟩
      rw [mid_drop, List.length_take]
      omega
  · next h35 =>
    obtain ⟨h1, rfl, _⟩ := ofKw_inl h
    unfold markR at h1
    split at h1
    · next ho =>
      simp only [Sum.inl.injEq, Prod.mk.injEq] at h1
      obtain ⟨rfl, rfl, rfl⟩ := h1
      exact ⟨.inr (.inr (.inr (.inr (.inr (.inl ⟨rfl, rfl, opF_ok 2 ho⟩))))), fun _ _ => rfl⟩
    split at h1
    · next hi =>
      simp only [Sum.inl.injEq, Prod.mk.injEq] at h1
      obtain ⟨rfl, rfl, rfl⟩ := h1
      obtain ⟨f1, f2, f3⟩ := marks_facts ⟨lookB s q, lookB_lt s q⟩ hi
      change (Lib.indexByte marksL (UInt8.ofNat (lookB s q))).toNat < 7 at f1
      change marksL.getD (Lib.indexByte marksL (UInt8.ofNat (lookB s q))).toNat 0 = UInt8.ofNat (lookB s q) at f2
      have hd := drop_look rfl f3
      refine ⟨.inr (.inr (.inr (.inr (.inr (.inr ⟨.inr ⟨by omega, by omega⟩, rfl, rfl⟩))))), fun _ _ => ?_⟩
      rw [mid_drop, hd]
      unfold writL
      rw [if_neg (by omega), if_neg (by omega), if_neg (by omega), if_neg (by omega), if_neg (by omega), if_pos (by omega), Nat.add_sub_cancel_left, f2]
      rfl
    split at h1
    · cases h1
    next h58 =>
    have h58' : lookB s q = 58 := by omega
    have hd := drop_look h58' (by decide)
    split at h1
    · simp only [Sum.inl.injEq, Prod.mk.injEq] at h1
      obtain ⟨rfl, rfl, rfl⟩ := h1
      refine ⟨.inr (.inr (.inr (.inr (.inr (.inr ⟨.inr ⟨by decide, by decide⟩, rfl, rfl⟩))))), fun _ _ => ?_⟩
      rw [mid_drop, hd]
      rfl
    · next h61 =>
      simp only [Sum.inl.injEq, Prod.mk.injEq] at h1
      obtain ⟨rfl, rfl, rfl⟩ := h1
      have h61' : lookB s (q + 1) = 61 := by omega
      have hd2 := drop_look h61' (by decide)
      refine ⟨.inr (.inr (.inr (.inr (.inr (.inr ⟨.inr ⟨by decide, by decide⟩, rfl, rfl⟩))))), fun _ _ => ?_⟩
      rw [mid_drop, hd, hd2]
      rfl
end Go.Proofs.YtijmigcgndlfcaaDoor.Fl
