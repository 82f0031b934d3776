/-
  The lexer: a token as it is written is read back.
-/
import Derived.Test.YtijmigcgndlfcaaDoorLxAy
import Derived.Test.YtijmigcgndlfcaaDoorLxM
namespace Go.Proofs.YtijmigcgndlfcaaDoor.Fl
open Go.RowKit

abbrev mkB (l : List UInt8) : ByteArray := ⟨l.toArray⟩
theorem mkB_size (l : List UInt8) : (mkB l).size = l.length := mkL_size l
def quoL (l : List UInt8) : List UInt8 := 39 :: (dbl l ++ [39])
/-- a token as it is written -/
def writL (k : Nat) (wd : List UInt8) (n : Int) : List UInt8 :=
  if k = 1 ∨ k = 2 ∨ k = 6 then wd else if k = 3 then Lib.itoa n else if k = 4 then quoL wd
  else if k = 5 then (if arityL (mkB wd) < 0 then 35 :: quoL wd else 35 :: wd)
  else if k = 7 then [58, 61] else if 8 ≤ k ∧ k ≤ 14 then [marksL.getD (k - 8) 0] else if k = 15 then [35, 40] else if k = 16 then [58] else []
def partA (l : List UInt8) : Bool := l.all fun c => partN c.toNat
/-- what a token can be -/
def TokV (k : Nat) (wd : List UInt8) (n : Int) : Prop :=
  (k = 1 ∧ n = 0 ∧ wd.length ≤ 64 ∧ partA wd = true ∧ ∃ c r, wd = c :: r ∧ letterN c.toNat = true) ∨
  (k = 2 ∧ n = 0 ∧ wd.length ≤ 64 ∧ ∃ nm, wd = nm ++ [58] ∧ partA nm = true ∧ ∃ c r, nm = c :: r ∧ letterN c.toNat = true) ∨
  (k = 3 ∧ wd = [] ∧ InR n ∧ 0 ≤ n) ∨ (k = 4 ∧ n = 0 ∧ wd.length ≤ 4096) ∨ (k = 5 ∧ n = 0 ∧ wd.length ≤ 64) ∨ (k = 6 ∧ n = 0 ∧ isOpL wd = true) ∨
  ((k = 0 ∨ (7 ≤ k ∧ k ≤ 16)) ∧ n = 0 ∧ wd = [])
theorem look_cons {s : ByteArray} {j : Nat} {c : UInt8} {l : List UInt8} (h : (sb s).drop j = c :: l) : lookB s j = c.toNat := by rw [lookB_drop, h]; rfl
theorem look_nil {s : ByteArray} {j : Nat} (h : (sb s).drop j = []) : lookB s j = 0 := by rw [lookB_drop, h]; rfl
theorem drop_more {s : ByteArray} {j : Nat} {l m : List UInt8} (h : (sb s).drop j = l ++ m) : (sb s).drop (j + l.length) = m := by
  rw [← List.drop_drop, h, List.drop_left' rfl]
theorem skip_zero {s : ByteArray} {c : UInt8} {l : List UInt8} (h : sb s = c :: l) (hb : blankN c.toNat = false) (hc : c ≠ 34) : tokR s 0 = tokAt s 0 := by
  unfold tokR
  rw [List.drop_zero, h]
  simp only [skipA, hb, Bool.false_eq_true, if_false, if_neg hc]
theorem run_app {f : Nat → Bool} {s : ByteArray} {j : Nat} {l m : List UInt8} (h : (sb s).drop j = l ++ m) (hl : (l.all fun c => f c.toNat) = true) (hm : ∀ c r, m = c :: r → f c.toNat = false) : runE f s j = j + l.length := by
  unfold runE
  rw [h]
  congr 2
  induction l with
  | nil =>
    cases m with
    | nil => rfl
    | cons c r => rw [List.nil_append, List.takeWhile_cons, if_neg (by rw [hm c r rfl]; simp)]
  | cons c l ih =>
    rw [List.all_cons, Bool.and_eq_true] at hl
    rw [List.cons_append, List.takeWhile_cons, if_pos hl.1]
    congr 1
    have : ∀ (l : List UInt8), (l.all fun c => f c.toNat) = true → (l ++ m).takeWhile (fun c => f c.toNat) = l := by
      intro l
      induction l with
      | nil =>
        intro _
        cases m with
        | nil => rfl
        | cons c r => rw [List.nil_append, List.takeWhile_cons, if_neg (by rw [hm c r rfl]; simp)]
      | cons d l ih2 =>
        intro h2
        rw [List.all_cons, Bool.and_eq_true] at h2
        rw [List.cons_append, List.takeWhile_cons, if_pos h2.1, ih2 h2.2]
    exact this l hl.2
theorem part58 : partN 58 = false := rfl
theorem named_key {s : ByteArray} {j : Nat} {nm rest : List UInt8} (h : (sb s).drop j = nm ++ 58 :: rest) (hn : partA nm = true) (hr : ∀ c r, rest = c :: r → c.toNat ≠ 61) : namedR s j = (2, j + nm.length + 1) := by
  have h1 := run_app (f := partN) h hn (fun c r e => by injection e with e _; subst e; rfl)
  have h2 := drop_more h
  have h3 : (sb s).drop (j + nm.length + 1) = rest := by rw [← List.drop_drop, h2]; rfl
  unfold namedR
  rw [h1, look_cons h2]
  rw [if_pos]
  refine ⟨rfl, ?_⟩
  cases rest with
  | nil => rw [look_nil h3]; decide
  | cons c r => rw [look_cons h3]; exact hr c r rfl
theorem named_name {s : ByteArray} {j : Nat} {nm : List UInt8} (h : (sb s).drop j = nm) (hn : partA nm = true) : namedR s j = (1, j + nm.length) := by
  have h0 : (sb s).drop j = nm ++ [] := by rw [h, List.append_nil]
  have h1 := run_app (f := partN) h0 hn (fun c r e => by cases e)
  unfold namedR
  rw [h1, look_nil (drop_more h0), if_neg (fun h => by have := h.1; omega)]
def keyT : List (List UInt8) → List UInt8
  | [] => []
  | p :: ps => p ++ 58 :: keyT ps
theorem spl_key : ∀ l : List UInt8, keyT (spl l) = l ++ [58]
  | [] => rfl
  | c :: l => by
    have ih := spl_key l
    rw [spl]
    split
    · next h => rw [keyT, ih, h]; rfl
    · split
      · next h => rw [h] at ih; simp [keyT] at ih
      · next h => rw [h] at ih; rw [keyT] at ih ⊢; rw [List.cons_append, ih]; rfl
theorem name_parts {p : List UInt8} (h : nameL p = true) : partA p = true ∧ ∃ c r, p = c :: r ∧ letterN c.toNat = true := by
  unfold nameL isNameB at h
  simp only [Bool.and_eq_true, beq_iff_eq] at h
  obtain ⟨h1, h2⟩ := h
  cases p with
  | nil => rw [look_nil (by rw [sb_mk]; rfl)] at h2; cases h2
  | cons c r =>
    refine ⟨?_, c, r, rfl, by rwa [look_cons (by rw [sb_mk]; rfl)] at h2⟩
    unfold runE at h1
    rw [sb_mk, List.drop_zero, mkL_size, Nat.zero_add] at h1
    have h3 := (List.takeWhile_sublist (fun c : UInt8 => partN c.toNat) (l := c :: r)).eq_of_length h1
    have h4 := List.all_takeWhile (p := fun c : UInt8 => partN c.toNat) (l := c :: r)
    rwa [h3] at h4
theorem letter_not61 {c : Nat} (h : letterN c = true) : c ≠ 61 := fun e => by subst e; cases h
theorem join_key {s : ByteArray} : ∀ (ps : List (List UInt8)) (j : Nat), (sb s).drop j = keyT ps → (∀ p ∈ ps, nameL p = true) → j ≤ s.size → joinW s j = s.size
  | [], j, h, _, hj => by
    rw [joinW, dif_neg]
    · have := congrArg List.length h
      rw [List.length_drop, sb_len] at this
      simp [keyT] at this
      omega
    · rintro ⟨⟨h1, _⟩, _⟩
      rw [look_nil h] at h1
      cases h1
  | p :: ps, j, h, hp, hj => by
    obtain ⟨h1, c, r, rfl, h2⟩ := name_parts (hp p (List.mem_cons_self ..))
    rw [keyT] at h
    have h3 : (sb s).drop (j + (c :: r).length + 1) = keyT ps := by
      rw [← List.drop_drop, drop_more h]; rfl
    have h4 : ∀ d t, keyT ps = d :: t → d.toNat ≠ 61 := by
      intro d t e
      cases ps with
      | nil => cases e
      | cons p' ps' =>
        obtain ⟨_, c', r', rfl, h5⟩ := name_parts (hp p' (List.mem_cons_of_mem _ (List.mem_cons_self ..)))
        rw [keyT] at e
        injection e with e _
        rw [← e]
        exact letter_not61 h5
    have h5 := named_key h h1 h4
    have hl := congrArg List.length h
    simp only [List.length_drop, sb_len, List.length_append, List.length_cons] at hl
    rw [joinW, dif_pos, h5]
    · exact join_key ps _ h3 (fun q hq => hp q (List.mem_cons_of_mem _ hq)) (by simp only [List.length_cons]; omega)
    · rw [h5]
      exact ⟨⟨by rw [look_cons h]; exact h2, rfl⟩, by simp; omega, by simp; omega⟩
theorem quoA_dbl : ∀ (l : List UInt8) (p : Nat), quoA p (dbl l ++ [39]) = some (p + (dbl l).length + 1)
  | [], p => rfl
  | c :: l, p => by
    rw [dbl]
    split
    · rw [List.cons_append, List.cons_append, quoA, if_pos rfl, if_pos rfl, quoA_dbl l (p + 2)]
      simp only [List.length_cons, Option.some.injEq]; omega
    · next hc =>
      have h := quoA_dbl l (p + 1)
      rw [List.cons_append]
      cases hd : dbl l ++ [39] with
      | nil => simp at hd
      | cons d t =>
        rw [hd] at h
        rw [quoA, if_neg hc, h]
        simp only [List.length_cons, Option.some.injEq]; omega
theorem unq_dbl : ∀ l : List UInt8, unq (dbl l) = l
  | [] => rfl
  | c :: l => by
    have ih := unq_dbl l
    rw [dbl]
    split
    · next hc => rw [unq, if_pos ⟨rfl, rfl⟩, ih, hc]
    · next hc =>
      cases hd : dbl l with
      | nil => rw [hd] at ih; rw [← ih]; rfl
      | cons d t => rw [hd] at ih; rw [unq, if_neg (fun h => hc h.1), ih]
theorem opc_facts : ∀ n : Fin 256, isOpc (UInt8.ofNat n) = true → letterN n = false ∧ digitN n = false ∧ blankN n = false ∧ n.1 ≠ 34 ∧ n.1 ≠ 35 ∧ n.1 ≠ 36 ∧ n.1 ≠ 39 ∧ n.1 ≠ 40 := by decide +kernel
theorem op_list {l : List UInt8} (h : isOpL l = true) : ∃ c r, l = c :: r ∧ (r = [] ∨ ∃ d, r = [d]) ∧ letterN c.toNat = false ∧ digitN c.toNat = false ∧ blankN c.toNat = false ∧ c.toNat ≠ 34 ∧ c.toNat ≠ 35 ∧ c.toNat ≠ 36 ∧ c.toNat ≠ 39 ∧ c.toNat ≠ 40 := by
  unfold isOpL at h
  split at h
  · next ha =>
    cases l with
    | nil => simp at h
    | cons c r =>
      rw [List.all_cons, Bool.and_eq_true] at ha
      have hf := opc_facts ⟨c.toNat, c.toNat_lt⟩ (by rw [show UInt8.ofNat ((⟨c.toNat, c.toNat_lt⟩ : Fin 256) : Nat) = c from UInt8.ofNat_toNat]; exact ha.1)
      refine ⟨c, r, rfl, ?_, hf⟩
      cases r with
      | nil => exact .inl rfl
      | cons d t =>
        cases t with
        | nil => exact .inr ⟨d, rfl⟩
        | cons e u => simp at h
  · have : l = [124] := by simpa using h
    subst this
    exact ⟨124, [], rfl, .inl rfl, by decide⟩
theorem op_read {s : ByteArray} {j : Nat} {l : List UInt8} (h : (sb s).drop j = l) (hj : j ≤ s.size) (ho : isOpL l = true) : opF s j 2 = l.length := by
  have hl := congrArg List.length h
  rw [List.length_drop, sb_len] at hl
  have hm : ∀ k, midL s j (j + k) = l.take k := fun k => by
    unfold midL
    rw [List.drop_take, h, show j + k - j = k by omega]
  obtain ⟨c, r, rfl, hr, _⟩ := op_list ho
  rcases hr with rfl | ⟨d, rfl⟩
  · simp only [List.length_cons, List.length_nil] at hl ⊢
    rw [opF, if_neg (by omega), opF, if_pos]
    refine ⟨by omega, ?_⟩
    rw [hm]; exact ho
  · simp only [List.length_cons, List.length_nil] at hl ⊢
    rw [opF, if_pos]
    refine ⟨by omega, ?_⟩
    rw [hm]; exact ho
end Go.Proofs.YtijmigcgndlfcaaDoor.Fl
