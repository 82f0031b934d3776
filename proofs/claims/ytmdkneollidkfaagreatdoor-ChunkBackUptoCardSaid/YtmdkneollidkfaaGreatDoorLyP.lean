/-
  The document's lexer: what keywords, operators, blanks and notes, and quoted texts come to, byte by byte.
-/
import Derived.Test.YtmdkneollidkfaaGreatDoorLyA
import Derived.Test.YtmdkneollidkfaaGreatDoorLxJc
namespace Go.Proofs.YtmdkneollidkfaaGreatDoor.Fl
open Go.RowKit

/-! ### keywords -/
theorem nameN_pos {s : ByteArray} {p : Nat} (hp : p ≤ s.size) : nameN s p ≠ p ↔ letterN (lookB s p) = true := by
  unfold nameN
  split
  · next h =>
    refine ⟨fun _ => h, fun _ e => ?_⟩
    have hlt : p < s.size := by
      rcases Nat.lt_or_ge p s.size with h1 | h1
      · exact h1
      · rw [lookB_no h1] at h; cases h
    rw [lookB_at hlt] at h
    have h2 := runE_step hlt (letter_part h)
    have h3 := (runE_le (f := partN) (s := s) (p := p + 1) hlt).1
    omega
  · next h => exact ⟨fun h1 => absurd rfl h1, fun h1 => absurd h1 h⟩
theorem keyR_named {s : ByteArray} {p : Nat} (hp : p ≤ s.size) : keyR s p = if letterN (lookB s p) = true ∧ (namedR s p).1 = 2 then (namedR s p).2 else p := by
  unfold keyR namedR
  by_cases hl : letterN (lookB s p) = true
  · have hn : nameN s p = runE partN s p := by unfold nameN; rw [if_pos hl]
    have h1 := (nameN_pos hp).2 hl
    rw [hn] at h1 ⊢
    by_cases hk : lookB s (runE partN s p) = 58 ∧ lookB s (runE partN s p + 1) ≠ 61
    · rw [if_pos ⟨h1, hk⟩, if_pos hk, if_pos ⟨hl, rfl⟩]
    · rw [if_neg (fun h => hk h.2), if_neg hk, if_neg (fun h => by have := h.2; simp at this)]
  · have h1 : ¬ nameN s p ≠ p := fun h => hl ((nameN_pos hp).1 h)
    rw [if_neg (fun h => h1 h.1), if_neg (fun h => hl h.1)]
theorem keyR_le {s : ByteArray} {p : Nat} (hp : p ≤ s.size) : p ≤ keyR s p ∧ keyR s p ≤ s.size := by
  rw [keyR_named hp]
  split
  · exact namedR_le hp
  · exact ⟨Nat.le_refl _, hp⟩
theorem join_go {s : ByteArray} {p : Nat} (hp : p ≤ s.size) (h : p < keyR s p) : joinW s p = joinW s (keyR s p) := by
  have hk := keyR_named hp
  have hle := (keyR_le hp).2
  rw [hk] at h hle ⊢
  split at h
  · next hc =>
    rw [if_pos hc] at hle ⊢
    rw [joinW, dif_pos ⟨hc, h, hle⟩]
  · omega
theorem join_no {s : ByteArray} {p : Nat} (hp : p ≤ s.size) (h : ¬ p < keyR s p) : joinW s p = p := by
  rw [keyR_named hp] at h
  rw [joinW, dif_neg]
  rintro ⟨hc, h1, _⟩
  rw [if_pos hc] at h
  exact h h1
/-! ### operators -/
theorem mid_one {s : ByteArray} {p : Nat} (h : p < s.size) : midL s p (p + 1) = [s[p]] := by
  rw [mid_drop, drop_at h]; rfl
theorem mid_two {s : ByteArray} {p : Nat} (h : p + 1 < s.size) : midL s p (p + 2) = [s[p]'(by omega), s[p + 1]] := by
  rw [mid_drop, drop_at (by omega), drop_at h]; rfl
theorem isOp_one (c : UInt8) : isOpL [c] = (operN c.toNat || c.toNat == 124) := by
  unfold isOpL
  rw [List.all_cons, List.all_nil, Bool.and_true, opc_eq]
  cases operN c.toNat
  · rw [if_neg (by simp), Bool.false_or, Bool.eq_iff_iff]
    simp only [beq_iff_eq, List.cons.injEq, and_true]
    exact ⟨fun e => by rw [e]; rfl, fun e => UInt8.toNat_inj.1 e⟩
  · rw [if_pos rfl]; rfl
theorem isOp_two (c d : UInt8) : isOpL [c, d] = (operN c.toNat && operN d.toNat && d.toNat != 45) := by
  unfold isOpL
  rw [List.all_cons, List.all_cons, List.all_nil, Bool.and_true, opc_eq, opc_eq]
  cases operN c.toNat && operN d.toNat
  · rw [if_neg (by simp)]; simp
  · rw [if_pos rfl, Bool.true_and]
    have h1 : (([c, d] : List UInt8).length == 1) = false := rfl
    have h2 : (([c, d] : List UInt8).length == 2) = true := rfl
    rw [h1, h2, Bool.false_or, Bool.true_and, Bool.eq_iff_iff]
    show ((some d != some 45) = true) ↔ _
    rw [bne_iff_ne, bne_iff_ne]
    exact ⟨fun h e => h (congrArg some (UInt8.toNat_inj.1 e)), fun h e => h (by injection e with e; rw [e]; rfl)⟩
theorem opF_eq (s : ByteArray) (p : Nat) (hp : p ≤ s.size) : opF s p 2 = if lookB s p = 124 then 1 else if operN (lookB s p) = false then 0 else if operN (lookB s (p + 1)) = true ∧ lookB s (p + 1) ≠ 45 then 2 else 1 := by
  have hz : operN 0 = false := rfl
  rcases Nat.lt_or_ge p s.size with h1 | h1
  · rw [opF, opF, opF, lookB_at h1, mid_one h1, isOp_one]
    rcases Nat.lt_or_ge (p + 1) s.size with h2 | h2
    · rw [lookB_at h2, mid_two h2, isOp_two]
      by_cases h124 : s[p].toNat = 124
      · have ho : operN 124 = false := rfl
        rw [h124, if_pos rfl, ho]
        simp
        omega
      · rw [if_neg h124]
        cases operN s[p].toNat
        · simp [h124]
        · simp only [Bool.true_and, Bool.true_or, Bool.and_eq_true, bne_iff_ne, Bool.true_eq_false, if_false]
          by_cases h3 : operN s[p + 1].toNat = true ∧ s[p + 1].toNat ≠ 45
          · rw [if_pos ⟨by omega, h3⟩, if_pos h3]
          · rw [if_neg (fun h => h3 h.2), if_neg h3, if_pos ⟨by omega, trivial⟩]
    · rw [lookB_no h2, hz, if_neg (by omega)]
      by_cases h124 : s[p].toNat = 124
      · have ho : operN 124 = false := rfl
        rw [h124, if_pos rfl, ho]
        simp
        omega
      · rw [if_neg h124]
        cases operN s[p].toNat
        · simp [h124]
        · simp
          omega
  · rw [lookB_no h1, opF, opF, opF, if_neg (by omega), if_neg (by omega), hz]
    rfl
/-! ### blanks and notes -/
theorem skip_blank {s : ByteArray} {q : Nat} (h : q < s.size) (hb : blankN s[q].toNat = true) : skipA none q ((sb s).drop q) = skipA none (q + 1) ((sb s).drop (q + 1)) := by
  rw [drop_at h, skipA, if_pos hb]
theorem skip_begin {s : ByteArray} {q : Nat} (h : q < s.size) (hb : s[q].toNat = 34) : skipA none q ((sb s).drop q) = skipA (some q) (q + 1) ((sb s).drop (q + 1)) := by
  rw [drop_at h, skipA, if_neg (by rw [hb]; decide), if_pos (UInt8.toNat_inj.1 hb)]
theorem skip_here {s : ByteArray} {q : Nat} (h : q < s.size) (hb : blankN s[q].toNat = false) (h34 : s[q].toNat ≠ 34) : skipA none q ((sb s).drop q) = .inl q := by
  rw [drop_at h, skipA, if_neg (by rw [hb]; decide), if_neg (fun e => h34 (by rw [e]; rfl))]
theorem skip_last (s : ByteArray) (m : Option Nat) : skipA m s.size ((sb s).drop s.size) = match m with
  | none => .inl s.size
  | some b => .inr b := by
  rw [List.drop_of_length_le (by rw [sb_len]; exact Nat.le_refl _)]
  cases m <;> rfl
theorem note_go {s : ByteArray} {q b : Nat} (h : q < s.size) (hb : s[q].toNat ≠ 34) : skipA (some b) q ((sb s).drop q) = skipA (some b) (q + 1) ((sb s).drop (q + 1)) := by
  rw [drop_at h, skipA, if_neg (fun e => hb (by rw [e]; rfl))]
theorem note_end {s : ByteArray} {q b : Nat} (h : q < s.size) (hb : s[q].toNat = 34) : skipA (some b) q ((sb s).drop q) = skipA none (q + 1) ((sb s).drop (q + 1)) := by
  rw [drop_at h, skipA, if_pos (UInt8.toNat_inj.1 hb)]
theorem skipA_note_le : ∀ (l : List UInt8) (m : Option Nat) (p q N : Nat), skipA m p l = .inr q → p + l.length ≤ N → (∀ b, m = some b → b ≤ N) → q ≤ N
  | [], none, p, q, N, h, _, _ => by cases h
  | [], some b, p, q, N, h, _, hb => by
    injection h with h
    subst h
    exact hb _ rfl
  | c :: l, none, p, q, N, h, hN, hb => by
    rw [List.length_cons] at hN
    rw [skipA] at h
    split at h
    · exact skipA_note_le l none (p + 1) q N h (by omega) (fun b e => by cases e)
    · split at h
      · exact skipA_note_le l (some p) (p + 1) q N h (by omega) (fun b e => by injection e with e; omega)
      · cases h
  | c :: l, some b, p, q, N, h, hN, hb => by
    rw [List.length_cons] at hN
    rw [skipA] at h
    split at h
    · exact skipA_note_le l none (p + 1) q N h (by omega) (fun b e => by cases e)
    · exact skipA_note_le l (some b) (p + 1) q N h (by omega) hb
theorem skip_in {s : ByteArray} {p q : Nat} (hp : p ≤ s.size) (h : skipA none p ((sb s).drop p) = .inr q) : q ≤ s.size :=
  skipA_note_le _ _ _ _ _ h (by rw [List.length_drop, sb_len]; omega) (fun b e => by cases e)
/-! ### texts -/
/-- what stands between quotes, and the place behind -/
def txtA (p : Nat) (acc : List UInt8) : List UInt8 → Option (List UInt8 × Nat)
  | [] => none
  | [c] => if c = 39 then some (acc, p + 1) else none
  | c :: d :: l => if c = 39 then (if d = 39 then txtA (p + 2) (acc ++ [39]) l else some (acc, p + 1)) else txtA (p + 1) (acc ++ [c]) (d :: l)
theorem unq_ne (c : UInt8) (l : List UInt8) (h : c ≠ 39) : unq (c :: l) = c :: unq l := by
  cases l with
  | nil => rfl
  | cons d l => rw [unq, if_neg (fun e => h e.1)]
theorem txtA_eq : ∀ (n : Nat) (l : List UInt8) (p : Nat) (acc : List UInt8), l.length ≤ n → txtA p acc l = (quoA p l).map fun e => (acc ++ unq (l.take (e - 1 - p)), e)
  | _, [], p, acc, _ => rfl
  | _, [c], p, acc, _ => by
    rw [txtA, quoA]
    split
    · simp [unq]
    · rfl
  | 0, c :: d :: l, p, acc, h => by simp at h
  | n + 1, c :: d :: l, p, acc, h => by
    rw [txtA, quoA]
    split
    · next hc =>
      split
      · next hd =>
        rw [txtA_eq n l (p + 2) (acc ++ [39]) (by simp at h; omega)]
        cases hq : quoA (p + 2) l with
        | none => rfl
        | some e =>
          have hlt := quoA_lt l.length l (p + 2) e (Nat.le_refl _) hq
          simp only [Option.map_some, Option.some.injEq, Prod.mk.injEq, and_true]
          rw [show e - 1 - p = (e - 1 - (p + 2)) + 2 by omega, List.take_succ_cons, List.take_succ_cons, hc, hd, unq, if_pos ⟨rfl, rfl⟩, List.append_assoc]
          rfl
      · simp [unq]
    · next hc =>
      rw [txtA_eq n (d :: l) (p + 1) (acc ++ [c]) (by simp at h ⊢; omega)]
      cases hq : quoA (p + 1) (d :: l) with
      | none => rfl
      | some e =>
        have hlt := quoA_lt (d :: l).length (d :: l) (p + 1) e (Nat.le_refl _) hq
        simp only [Option.map_some, Option.some.injEq, Prod.mk.injEq, and_true]
        rw [show e - 1 - p = (e - 1 - (p + 1)) + 1 by omega, List.take_succ_cons, unq_ne c _ hc, List.append_assoc]
        rfl
/-- a text behind a quote -/
theorem txt_quo (s : ByteArray) (p : Nat) : txtA p [] ((sb s).drop p) = (quoA p ((sb s).drop p)).map fun e => (unq (midL s p (e - 1)), e) := by
  rw [txtA_eq _ _ _ _ (Nat.le_refl _)]
  cases hq : quoA p ((sb s).drop p) with
  | none => rfl
  | some e =>
    have hlt := quoA_lt _ _ p e (Nat.le_refl _) hq
    simp only [Option.map_some, Option.some.injEq, Prod.mk.injEq, and_true, List.nil_append]
    conv => rhs; rw [show e - 1 = p + (e - 1 - p) by omega, mid_drop]
theorem txt_end {s : ByteArray} {q : Nat} {acc : List UInt8} (h : s.size ≤ q) : txtA q acc ((sb s).drop q) = none := by
  rw [List.drop_of_length_le (by rw [sb_len]; exact h)]; rfl
theorem txt_go {s : ByteArray} {q : Nat} {acc : List UInt8} (h : q < s.size) (hc : s[q].toNat ≠ 39) : txtA q acc ((sb s).drop q) = txtA (q + 1) (acc ++ [s[q]]) ((sb s).drop (q + 1)) := by
  have hc' : s[q] ≠ 39 := fun e => hc (by rw [e]; rfl)
  rw [drop_at h]
  cases (sb s).drop (q + 1) with
  | nil =>
    show (if s[q] = 39 then some (acc, q + 1) else none) = none
    rw [if_neg hc']
  | cons d l => rw [txtA, if_neg hc']
theorem txt_two {s : ByteArray} {q : Nat} {acc : List UInt8} (h : q + 1 < s.size) (hc : s[q].toNat = 39) (hd : s[q + 1].toNat = 39) : txtA q acc ((sb s).drop q) = txtA (q + 2) (acc ++ [39]) ((sb s).drop (q + 2)) := by
  rw [drop_at (by omega), drop_at h, txtA, if_pos (UInt8.toNat_inj.1 hc), if_pos (UInt8.toNat_inj.1 hd)]
theorem txt_stop {s : ByteArray} {q : Nat} {acc : List UInt8} (h : q < s.size) (hc : s[q].toNat = 39) (hd : lookB s (q + 1) ≠ 39) : txtA q acc ((sb s).drop q) = some (acc, q + 1) := by
  rw [drop_at h]
  rcases Nat.lt_or_ge (q + 1) s.size with h1 | h1
  · rw [drop_at h1, txtA, if_pos (UInt8.toNat_inj.1 hc), if_neg]
    intro e
    rw [lookB_at h1, e] at hd
    exact hd rfl
  · rw [List.drop_of_length_le (by rw [sb_len]; exact h1), txtA, if_pos (UInt8.toNat_inj.1 hc)]
end Go.Proofs.YtmdkneollidkfaaGreatDoor.Fl

/-
  The document's lexer: how many arguments a message of a name has.
-/
namespace Go.Proofs.YtmdkneollidkfaaGreatDoor.Fl
open Go.RowKit

/-- by keywords, a name, an operator -/
def arR (s : ByteArray) : Int :=
  if s.size = 0 ∨ 64 < s.size then -1 else if joinW s 0 = s.size then (((sb s).countP (· == 58) : Nat) : Int) else if nameN s 0 = s.size then 0 else if opF s 0 2 = s.size then 1 else -1
theorem name_no58 {p : List UInt8} (h : nameL p = true) : ∀ c ∈ p, c ≠ 58 := by
  obtain ⟨h1, _⟩ := name_parts h
  intro c hc e
  have := List.all_eq_true.1 h1 c hc
  rw [e] at this
  cases this
theorem spl_plain : ∀ (p : List UInt8), (∀ c ∈ p, c ≠ 58) → spl p = [p]
  | [], _ => rfl
  | c :: l, h => by rw [spl, if_neg (h c (List.mem_cons_self ..)), spl_plain l (fun d hd => h d (List.mem_cons_of_mem _ hd))]
theorem spl_app : ∀ (p l : List UInt8), (∀ c ∈ p, c ≠ 58) → spl (p ++ 58 :: l) = p :: spl l
  | [], l, _ => by rw [List.nil_append, spl, if_pos rfl]
  | c :: p, l, h => by rw [List.cons_append, spl, if_neg (h c (List.mem_cons_self ..)), spl_app p l (fun d hd => h d (List.mem_cons_of_mem _ hd))]
theorem key_end : ∀ (ps : List (List UInt8)), ps ≠ [] → ∃ l, keyT ps = l ++ [58]
  | [], h => absurd rfl h
  | [p], _ => ⟨p, rfl⟩
  | p :: p2 :: ps, _ => by
    obtain ⟨l, h⟩ := key_end (p2 :: ps) (by simp)
    exact ⟨p ++ 58 :: l, by rw [keyT, h]; simp⟩
theorem spl_keyT : ∀ (ps : List (List UInt8)) (l : List UInt8), ps ≠ [] → (∀ p ∈ ps, nameL p = true) → keyT ps = l ++ [58] → spl l = ps
  | [], _, h, _, _ => absurd rfl h
  | [p], l, _, hn, h => by
    have h1 : p ++ [58] = l ++ [58] := h
    rw [List.append_cancel_right_eq] at h1
    rw [← h1]
    exact spl_plain p (name_no58 (hn p (List.mem_cons_self ..)))
  | p :: p' :: ps, l, _, hn, h => by
    rw [keyT] at h
    have hk := spl_key
    obtain ⟨l', hl'⟩ := key_end (p' :: ps) (by simp)
    rw [hl'] at h
    have h1 : p ++ 58 :: l' = l := by
      have : (p ++ 58 :: l') ++ [58] = l ++ [58] := by rw [← h]; simp
      exact List.append_cancel_right this
    rw [← h1, spl_app p l' (name_no58 (hn p (List.mem_cons_self ..))), spl_keyT (p' :: ps) l' (by simp) (fun q hq => hn q (List.mem_cons_of_mem _ hq)) hl']
theorem count_keyT : ∀ (ps : List (List UInt8)), (∀ p ∈ ps, nameL p = true) → (keyT ps).countP (· == 58) = ps.length
  | [], _ => rfl
  | p :: ps, hn => by
    have h0 : p.countP (· == 58) = 0 := by
      rw [List.countP_eq_zero]
      intro c hc
      simpa using name_no58 (hn p (List.mem_cons_self ..)) c hc
    rw [keyT, List.countP_append, h0, List.countP_cons, count_keyT ps (fun q hq => hn q (List.mem_cons_of_mem _ hq)), List.length_cons]
    simp
theorem named_nm {s : ByteArray} {q : Nat} (hq : q ≤ s.size) (h : q < keyR s q) : ∃ p, nameL p = true ∧ (sb s).drop q = p ++ 58 :: (sb s).drop (keyR s q) := by
  unfold keyR at h ⊢
  split at h
  · next hc =>
    rw [if_pos hc]
    have hl := (nameN_pos hq).1 hc.1
    have hn : nameN s q = runE partN s q := by unfold nameN; rw [if_pos hl]
    rw [hn] at hc ⊢
    refine ⟨midL s q (runE partN s q), ?_, ?_⟩
    · have hlt : q < s.size := by
        rcases Nat.lt_or_ge q s.size with h1 | h1
        · exact h1
        · rw [lookB_no h1] at hl; cases hl
      have hrm := run_mid partN s q
      have hall : partA (midL s q (runE partN s q)) = true := by rw [hrm]; exact List.all_takeWhile
      rw [lookB_at hlt] at hl
      have hcons : midL s q (runE partN s q) = s[q] :: ((sb s).drop (q + 1)).takeWhile fun c => partN c.toNat := by
        rw [hrm, drop_at hlt, List.takeWhile_cons, if_pos (letter_part hl)]
      generalize midL s q (runE partN s q) = m at hall hcons
      unfold nameL isNameB
      rw [Bool.and_eq_true, beq_iff_eq]
      have h1 := run_app (f := partN) (s := mkB m) (j := 0) (l := m) (m := []) (by rw [sb_mk, List.append_nil]; rfl) hall (fun _ _ e => by cases e)
      refine ⟨by rw [h1, mkB_size, Nat.zero_add], ?_⟩
      rw [look_cons (s := mkB m) (j := 0) (c := s[q]) (l := ((sb s).drop (q + 1)).takeWhile fun c => partN c.toNat) (by rw [sb_mk, ← hcons]; rfl)]
      exact hl
    · have hd := drop_look hc.2.1 (by decide)
      have := run_split partN s q
      rw [this, hd]
      rfl
  · omega
theorem join_keys {s : ByteArray} (n : Nat) : ∀ q, q ≤ s.size → s.size - q ≤ n → ∃ ps, (∀ p ∈ ps, nameL p = true) ∧ (sb s).drop q = keyT ps ++ (sb s).drop (joinW s q) := by
  induction n with
  | zero =>
    intro q hq hn
    have e : q = s.size := by omega
    have hz : ¬ q < keyR s q := by have := (keyR_le hq).2; omega
    exact ⟨[], (fun p h => by cases h), by rw [join_no hq hz]; rfl⟩
  | succ n ih =>
    intro q hq hn
    by_cases h : q < keyR s q
    · obtain ⟨p, hp, hd⟩ := named_nm hq h
      obtain ⟨ps, hps, he⟩ := ih (keyR s q) (keyR_le hq).2 (by omega)
      refine ⟨p :: ps, ?_, ?_⟩
      · intro x hx
        rcases List.mem_cons.1 hx with rfl | hx
        · exact hp
        · exact hps x hx
      · rw [join_go hq h, hd, he, keyT, List.append_assoc, List.cons_append]
    · exact ⟨[], (fun p h => by cases h), by rw [join_no hq h]; rfl⟩
theorem isName_eq (s : ByteArray) (h : 0 < s.size) : isNameB s = decide (nameN s 0 = s.size) := by
  unfold isNameB nameN
  cases hl : letterN (lookB s 0)
  · rw [Bool.and_false, if_neg (by decide)]
    exact (decide_eq_false (by omega)).symm
  · rw [Bool.and_true, if_pos rfl, Bool.eq_iff_iff, beq_iff_eq, decide_eq_true_eq]
theorem opF_all (s : ByteArray) (h : 0 < s.size) : isOpL (sb s) = decide (opF s 0 2 = s.size) := by
  rw [Bool.eq_iff_iff, decide_eq_true_eq]
  constructor
  · intro ho
    rw [op_read (s := s) (j := 0) (l := sb s) rfl (Nat.zero_le _) ho, sb_len]
  · intro he
    have h1 := opF_ok (s := s) (p := 0) 2 (by omega)
    rw [Nat.zero_add, he, mid_all] at h1
    exact h1
theorem arR_eq (s : ByteArray) : arR s = arityL s := by
  unfold arR arityL
  by_cases h64 : 64 < s.size
  · rw [if_pos (.inr h64), if_pos h64]
  rw [if_neg h64]
  by_cases h0 : s.size = 0
  · rw [if_pos (.inl h0)]
    have hs : sb s = [] := List.eq_nil_of_length_eq_zero (by rw [sb_len]; exact h0)
    have hb : isNameB s = false := by
      unfold isNameB
      rw [lookB_no (s := s) (p := 0) (by omega)]
      simp [letterN]
    rw [hb, hs]
    rfl
  have hp : 0 < s.size := by omega
  rw [if_neg (by omega), isName_eq s hp, opF_all s hp]
  by_cases hj : joinW s 0 = s.size
  · rw [if_pos hj]
    obtain ⟨ps, hps, hd⟩ := join_keys (s := s) s.size 0 (Nat.zero_le _) (by omega)
    rw [hj, List.drop_zero, List.drop_of_length_le (by rw [sb_len]; exact Nat.le_refl _), List.append_nil] at hd
    have hne : ps ≠ [] := by
      intro e
      rw [e] at hd
      have : s.size = 0 := by rw [← sb_len, hd]; rfl
      omega
    obtain ⟨l, hl⟩ := key_end ps hne
    rw [← hd] at hl
    have hspl := spl_keyT ps l hne hps (by rw [← hd, hl])
    have hn1 : decide (nameN s 0 = s.size) = false := by
      rw [decide_eq_false_iff_not]
      intro e
      have hi := isName_eq s hp
      rw [decide_eq_true e] at hi
      have h58 : (58 : UInt8) ∈ sb s := by rw [hl]; simp
      have hnl : nameL (sb s) = true := by rw [nameL_sb]; exact hi
      exact name_no58 hnl 58 h58 rfl
    have hn2 : decide (opF s 0 2 = s.size) = false := by
      rw [← opF_all s hp, Bool.eq_false_iff]
      intro ho
      obtain ⟨c, r, hc, _, h1, _⟩ := op_list ho
      cases ps with
      | nil => exact absurd rfl hne
      | cons p ps =>
        obtain ⟨_, c', r', rfl, h5⟩ := name_parts (hps p (List.mem_cons_self ..))
        rw [hd, keyT, List.cons_append] at hc
        injection hc with hc _
        rw [← hc, h5] at h1
        cases h1
    have hsf : Lib.hasSuffix (sb s) [58] = true := by
      unfold Lib.hasSuffix
      rw [List.isSuffixOf_iff_suffix]
      exact ⟨l, hl.symm⟩
    have htr : Lib.trimSuffix (sb s) [58] = l := by
      unfold Lib.trimSuffix
      rw [if_pos hsf, hl]
      simp
    rw [hn1, hn2, hsf, htr]
    show _ = keysL l
    unfold keysL
    rw [hspl, if_pos (List.all_eq_true.2 hps), hd, count_keyT ps hps]
  · rw [if_neg hj]
    have hk : ∀ l, Lib.hasSuffix (sb s) [58] = true → l = Lib.trimSuffix (sb s) [58] → keysL l = -1 := by
      intro l hsf hl
      unfold keysL
      split
      · next hal =>
        have hk : keyT (spl l) = sb s := by
          rw [spl_key, hl]
          have hsf2 := hsf
          unfold Lib.hasSuffix at hsf2
          obtain ⟨t, ht⟩ := List.isSuffixOf_iff_suffix.1 hsf2
          unfold Lib.trimSuffix
          rw [if_pos hsf, ← ht]
          simp
        exact absurd (join_key (s := s) (spl l) 0 (by rw [hk]; rfl) (fun p hp => List.all_eq_true.1 hal p hp) (Nat.zero_le _)) hj
      · rfl
    by_cases hn : nameN s 0 = s.size
    · rw [if_pos hn, decide_eq_true hn]; rfl
    · rw [if_neg hn, decide_eq_false hn]
      show _ = if decide (opF s 0 2 = s.size) = true then (1 : Int) else if Lib.hasSuffix (sb s) [58] = true then keysL (Lib.trimSuffix (sb s) [58]) else -1
      by_cases ho : opF s 0 2 = s.size
      · rw [if_pos ho, decide_eq_true ho]; rfl
      · rw [if_neg ho, decide_eq_false ho]
        show _ = if Lib.hasSuffix (sb s) [58] = true then keysL (Lib.trimSuffix (sb s) [58]) else -1
        cases hsf : Lib.hasSuffix (sb s) [58]
        · rfl
        · exact (hk _ hsf rfl).symm
end Go.Proofs.YtmdkneollidkfaaGreatDoor.Fl

/-
  Tokens of any kind: which can be spelled; tokens with a blank behind each are read back.
-/
namespace Go.Proofs.YtmdkneollidkfaaGreatDoor.Fl
open Go.RowKit

/-- can Next answer it? -/
def okT (k : Int) (wd : List UInt8) (n : Int) : Prop := 0 ≤ k ∧ TokV k.toNat wd n
/-- as it is written, whatever its kind -/
def writK (k : Int) (wd : List UInt8) (n : Int) : List UInt8 := if 0 ≤ k then writL k.toNat wd n else []
theorem writK_nat (k : Nat) (wd : List UInt8) (n : Int) : writK (k : Int) wd n = writL k wd n := by
  unfold writK
  rw [if_pos (by omega), Int.toNat_natCast]
theorem writL_great {k : Nat} (h : 16 < k) (wd : List UInt8) (n : Int) : writL k wd n = [] := by
  unfold writL
  rw [if_neg (by omega), if_neg (by omega), if_neg (by omega), if_neg (by omega), if_neg (by omega), if_neg (by omega), if_neg (by omega), if_neg (by omega)]
theorem writK_out {k : Int} (h : k < 0 ∨ 16 < k) (wd : List UInt8) (n : Int) : writK k wd n = [] := by
  unfold writK
  split
  · exact writL_great (by omega) wd n
  · rfl
theorem okT_bounds {k : Int} {wd : List UInt8} {n : Int} (h : okT k wd n) : 0 ≤ k ∧ k ≤ 16 ∧ wd.length ≤ 4096 ∧ InR n ∧ (writK k wd n).length ≤ 8196 := by
  obtain ⟨h0, hv⟩ := h
  obtain ⟨h1, h2, h3, h4⟩ := hv.bounds
  refine ⟨h0, by omega, h2, h3, ?_⟩
  unfold writK
  rw [if_pos h0]
  exact h4
/-- what is read back of what is written -/
theorem okT_back {k : Int} {wd : List UInt8} {n : Int} (h : okT k wd n) : tokR (mkB (writK k wd n)) 0 = .inl (k.toNat, wd, n, 0, (writK k wd n).length) := by
  obtain ⟨h0, hv⟩ := h
  unfold writK
  rw [if_pos h0]
  exact spell_back hv
theorem okT_of {k : Int} {wd : List UInt8} {n : Int} {s : ByteArray} {k' : Nat} {n' : Int} {q p : Nat} {wd' : List UInt8} (ht : tokR s 0 = .inl (k', wd', n', q, p)) (h1 : (k' : Int) = k) (h2 : wd' = wd) (h3 : n' = n) : okT k wd n := by
  obtain ⟨hq, ha⟩ := tokR_at (Nat.zero_le _) ht
  obtain ⟨hv, _⟩ := tokAt_v hq ha
  subst h1 h2 h3
  exact ⟨by omega, by rw [Int.toNat_natCast]; exact hv⟩
/-- is the token so: read back as it was -/
theorem okT_iff (k : Int) (wd : List UInt8) (n : Int) (hn : ¬ okT k wd n) : ∀ k' wd' n' q p, tokR (mkB (writK k wd n)) 0 = .inl (k', wd', n', q, p) → ¬ ((k' : Int) = k ∧ wd' = wd ∧ n' = n) :=
  fun _ _ _ _ _ ht h => hn (okT_of ht h.1 h.2.1 h.2.2)
/-! ### tokens with a blank behind each -/
abbrev Tok3 := Nat × List UInt8 × Int
def spT : List Tok3 → List UInt8
  | [] => []
  | x :: l => writL x.1 x.2.1 x.2.2 ++ 32 :: spT l
theorem spT_app : ∀ l m : List Tok3, spT (l ++ m) = spT l ++ spT m
  | [], _ => rfl
  | x :: l, m => by rw [List.cons_append, spT, spT, spT_app l m, List.append_assoc, List.cons_append]
theorem sp_all : ∀ (xs : List Tok3) (s : ByteArray) (p : Nat), (sb s).drop p = spT xs → p ≤ s.size → (∀ x ∈ xs, x.1 ≠ 0 ∧ TokV x.1 x.2.1 x.2.2) → ∃ l', allW s p = .inl l' ∧ l'.map str3 = xs ++ [(0, [], 0)]
  | [], s, p, h, hp, _ => by
    have e : p = s.size := by
      have := congrArg List.length h
      rw [List.length_drop, sb_len] at this
      simp [spT] at this
      omega
    subst e
    have ht : tokR s s.size = .inl (0, [], 0, s.size, s.size) := by
      unfold tokR
      rw [skip_last s none]
      show tokAt s s.size = _
      unfold tokAt
      rw [if_pos rfl]
    exact ⟨_, allW_end ht, rfl⟩
  | x :: l, s, p, h, hp, hx => by
    obtain ⟨k, wd, n⟩ := x
    obtain ⟨hk, hv⟩ := hx _ (List.mem_cons_self ..)
    change k ≠ 0 at hk
    change TokV k wd n at hv
    have h2 : (sb s).drop p = writL k wd n ++ 32 :: spT l := h
    obtain ⟨hta, c, r, hc, hb, h34⟩ := tok_read hv hk h2 (fun c r e => by injection e with e _; exact .inl e.symm) hp
    have hl2 := congrArg List.length h2
    simp only [List.length_drop, sb_len, List.length_append, List.length_cons] at hl2
    have ht : tokR s p = .inl (k, wd, n, p, p + (writL k wd n).length) := by
      have hsk : skipA none p ((sb s).drop p) = .inl p := by
        rw [h2, hc]
        simp only [List.cons_append, skipA, hb, Bool.false_eq_true, if_false, if_neg h34]
      unfold tokR
      rw [hsk]
      exact hta
    obtain ⟨q, hq⟩ : ∃ q, p + (writL k wd n).length = q := ⟨_, rfl⟩
    have hd : (sb s).drop q = 32 :: spT l := by rw [← hq]; exact drop_more h2
    have hd2 : (sb s).drop (q + 1) = spT l := by rw [← List.drop_drop, hd]; rfl
    have hqs : q + 1 ≤ s.size := by omega
    rw [hq] at ht
    have ht2 : tokR s q = tokR s (q + 1) := by
      unfold tokR
      have h32 : blankN (32 : UInt8).toNat = true := rfl
      rw [hd, hd2]
      simp only [skipA, h32, if_true]
    obtain ⟨l', e1, e2⟩ := sp_all l s (q + 1) hd2 hqs (fun y hy => hx y (List.mem_cons_of_mem _ hy))
    have ha := allW_of (Nat.le_succ q) hqs ht2
    have hgo := (allW_go hp (by omega) ht hk []).2
    rw [preW_nil, ha, e1] at hgo
    refine ⟨(k, wd, n, p) :: l', hgo, ?_⟩
    rw [List.map_cons, e2]
    rfl
end Go.Proofs.YtmdkneollidkfaaGreatDoor.Fl
