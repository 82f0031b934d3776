/-
  The lexer: a token as it is written, with a blank or a note behind it.
-/
import Derived.Test.YtijmigcgndlfcaaDoorLxPl
namespace Go.Proofs.YtijmigcgndlfcaaDoor.Fl
open Go.RowKit

/-- nothing, or a blank, or a note -/
def Sep (R : List UInt8) : Prop := ∀ c r, R = c :: r → c = 32 ∨ c = 34
theorem Sep.part {R : List UInt8} (h : Sep R) : ∀ c r, R = c :: r → partN c.toNat = false := fun c r e => by rcases h c r e with rfl | rfl <;> rfl
theorem Sep.dig {R : List UInt8} (h : Sep R) : ∀ c r, R = c :: r → digitN c.toNat = false := fun c r e => by rcases h c r e with rfl | rfl <;> rfl
theorem Sep.look {R : List UInt8} (h : Sep R) {s : ByteArray} {j : Nat} (hd : (sb s).drop j = R) : lookB s j = 0 ∨ lookB s j = 32 ∨ lookB s j = 34 := by
  cases R with
  | nil => exact .inl (look_nil hd)
  | cons c r => rw [look_cons hd]; rcases h c r rfl with rfl | rfl; exact .inr (.inl rfl); exact .inr (.inr rfl)
theorem named_nameS {s : ByteArray} {j : Nat} {nm R : List UInt8} (h : (sb s).drop j = nm ++ R) (hn : partA nm = true) (hR : Sep R) : namedR s j = (1, j + nm.length) := by
  have h1 := run_app (f := partN) h hn hR.part
  have h2 := hR.look (drop_more h)
  unfold namedR
  rw [h1, if_neg (fun h => by have := h.1; omega)]
theorem quoA_dblS : ∀ (l R : List UInt8) (p : Nat), (∀ c r, R = c :: r → c ≠ 39) → quoA p (dbl l ++ 39 :: R) = some (p + (dbl l).length + 1)
  | [], R, p, hR => by
    cases R with
    | nil => rfl
    | cons c r =>
      show quoA p (39 :: c :: r) = _
      rw [quoA, if_pos rfl, if_neg (hR c r rfl)]
      rfl
  | c :: l, R, p, hR => by
    rw [dbl]
    split
    · rw [List.cons_append, List.cons_append, quoA, if_pos rfl, if_pos rfl, quoA_dblS l R (p + 2) hR]
      simp only [List.length_cons, Option.some.injEq]; omega
    · next hc =>
      have h := quoA_dblS l R (p + 1) hR
      rw [List.cons_append]
      cases hd : dbl l ++ 39 :: R with
      | nil => simp at hd
      | cons d t =>
        rw [hd] at h
        rw [quoA, if_neg hc, h]
        simp only [List.length_cons, Option.some.injEq]; omega
theorem quo_readS {s : ByteArray} {j : Nat} {wd R : List UInt8} (h : (sb s).drop j = dbl wd ++ 39 :: R) (hR : Sep R) : quoA j ((sb s).drop j) = some (j + (dbl wd).length + 1) ∧ unq (midL s j (j + (dbl wd).length + 1 - 1)) = wd := by
  refine ⟨by rw [h, quoA_dblS wd R j (fun c r e => by rcases hR c r e with rfl | rfl <;> decide)], ?_⟩
  rw [Nat.add_sub_cancel, mid_drop, h, List.take_left' rfl, unq_dbl]
theorem opc_sep : isOpc 32 = false ∧ isOpc 34 = false := by decide +kernel
theorem op_readS {s : ByteArray} {j : Nat} {l R : List UInt8} (h : (sb s).drop j = l ++ R) (hj : j ≤ s.size) (hR : Sep R) (ho : isOpL l = true) : opF s j 2 = l.length := by
  have hl := congrArg List.length h
  rw [List.length_drop, sb_len, List.length_append] at hl
  obtain ⟨c, r, rfl, hr, _⟩ := op_list ho
  rcases hr with rfl | ⟨d, rfl⟩
  · simp only [List.length_cons, List.length_nil] at hl ⊢
    rw [opF, if_neg, opF, if_pos]
    · refine ⟨by omega, ?_⟩
      rw [mid_drop, h]; exact ho
    · rintro ⟨h1, h2⟩
      rw [mid_drop, h] at h2
      cases R with
      | nil => simp at hl; omega
      | cons d t =>
        have hd : isOpc d = false := by rcases hR d t rfl with rfl | rfl; exact opc_sep.1; exact opc_sep.2
        have e : (([c] ++ d :: t).take (1 + 1)) = [c, d] := rfl
        rw [e] at h2
        unfold isOpL at h2
        rw [List.all_cons, List.all_cons, hd] at h2
        simp at h2
  · simp only [List.length_cons, List.length_nil] at hl ⊢
    rw [opF, if_pos]
    refine ⟨by omega, ?_⟩
    rw [mid_drop, h]; exact ho
theorem op_none {s : ByteArray} {j c : Nat} {r : List UInt8} (h : (sb s).drop j = UInt8.ofNat c :: r) (hc : isOpc (UInt8.ofNat c) = false) (h2 : UInt8.ofNat c ≠ 124) : opF s j 2 = 0 := by
  have hno : ∀ k, isOpL (midL s j (j + (k + 1))) = false := by
    intro k
    rw [mid_drop, h, List.take_succ_cons]
    unfold isOpL
    rw [List.all_cons, hc]
    simp [h2]
  rw [opF, if_neg (by rw [hno 1]; simp), opF, if_neg (by rw [hno 0]; simp)]
  rfl
theorem join_keyS {s : ByteArray} {R : List UInt8} (hR : Sep R) : ∀ (ps : List (List UInt8)) (j : Nat), (sb s).drop j = keyT ps ++ R → (∀ p ∈ ps, nameL p = true) → j ≤ s.size → joinW s j = j + (keyT ps).length
  | [], j, h, _, hj => by
    rw [joinW, dif_neg]
    · rfl
    · rintro ⟨⟨h1, _⟩, _⟩
      have := hR.look (j := j) (s := s) h
      rcases this with e | e | e <;> rw [e] at h1 <;> cases h1
  | p :: ps, j, h, hp, hj => by
    obtain ⟨h1, c, r, rfl, h2⟩ := name_parts (hp p (List.mem_cons_self ..))
    rw [keyT, List.append_assoc, List.cons_append] at h
    have h3 : (sb s).drop (j + (c :: r).length + 1) = keyT ps ++ R := by
      rw [← List.drop_drop, drop_more h]; rfl
    have h4 : ∀ d t, keyT ps ++ R = d :: t → d.toNat ≠ 61 := by
      intro d t e
      cases ps with
      | nil => rcases hR d t e with rfl | rfl <;> decide
      | cons p' ps' =>
        obtain ⟨_, c', r', rfl, h5⟩ := name_parts (hp p' (List.mem_cons_of_mem _ (List.mem_cons_self ..)))
        rw [keyT] at e
        injection e with e _
        rw [← e]
        exact letter_not61 h5
    have h5 := named_key h h1 h4
    have hl := congrArg List.length h
    simp only [List.length_drop, sb_len, List.length_append, List.length_cons] at hl
    rw [joinW, dif_pos, h5]
    · rw [join_keyS hR ps _ h3 (fun q hq => hp q (List.mem_cons_of_mem _ hq)) (by simp only [List.length_cons]; omega)]
      simp only [keyT, List.length_append, List.length_cons]; omega
    · rw [h5]
      exact ⟨⟨by rw [look_cons h]; exact h2, rfl⟩, by simp; omega, by simp; omega⟩
theorem sizeS {s : ByteArray} {q : Nat} {c : UInt8} {l : List UInt8} (h : (sb s).drop q = c :: l) : q < s.size := by
  have hl := congrArg List.length h
  rw [List.length_drop, sb_len, List.length_cons] at hl
  omega
end Go.Proofs.YtijmigcgndlfcaaDoor.Fl
