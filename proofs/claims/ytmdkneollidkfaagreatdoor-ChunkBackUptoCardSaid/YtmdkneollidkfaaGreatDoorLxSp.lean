/-
  The lexer: a token as it is written is read back.
-/
import Derived.Test.YtmdkneollidkfaaGreatDoorLxAr
namespace Go.Proofs.YtmdkneollidkfaaGreatDoor.Fl
open Go.RowKit

abbrev mkB (l : List UInt8) : ByteArray := ⟨l.toArray⟩
theorem mkB_size (l : List UInt8) : (mkB l).size = l.length := mkL_size l
def quoL (l : List UInt8) : List UInt8 := 39 :: (dbl l ++ [39])
/-- a token as it is written -/
def writL (k : Nat) (wd : List UInt8) (n : Int) : List UInt8 :=
  if k = 1 ∨ k = 2 ∨ k = 6 then wd else if k = 3 then Lib.itoa n else if k = 4 then quoL wd
  else if k = 5 then (if arityL (mkB wd) < 0 then 35 :: quoL wd else 35 :: wd)
  else if k = 7 then [58, 61] else if 8 ≤ k ∧ k ≤ 14 then [marksL.getD (k - 8) 0] else if k = 15 then [35, 40] else if k = 16 then [58] else []
def partA (l : List UInt8) : Bool := l.all fun c => partN c.toNat
/-- what a token can be -/
def TokV (k : Nat) (wd : List UInt8) (n : Int) : Prop :=
  (k = 1 ∧ n = 0 ∧ wd.length ≤ 64 ∧ partA wd = true ∧ ∃ c r, wd = c :: r ∧ letterN c.toNat = true) ∨
  (k = 2 ∧ n = 0 ∧ wd.length ≤ 64 ∧ ∃ nm, wd = nm ++ [58] ∧ partA nm = true ∧ ∃ c r, nm = c :: r ∧ letterN c.toNat = true) ∨
  (k = 3 ∧ wd = [] ∧ InR n ∧ 0 ≤ n) ∨ (k = 4 ∧ n = 0 ∧ wd.length ≤ 4096) ∨ (k = 5 ∧ n = 0 ∧ wd.length ≤ 64) ∨ (k = 6 ∧ n = 0 ∧ isOpL wd = true) ∨
  ((k = 0 ∨ (7 ≤ k ∧ k ≤ 16)) ∧ n = 0 ∧ wd = [])
theorem look_cons {s : ByteArray} {j : Nat} {c : UInt8} {l : List UInt8} (h : (sb s).drop j = c :: l) : lookB s j = c.toNat := by rw [lookB_drop, h]; rfl
theorem look_nil {s : ByteArray} {j : Nat} (h : (sb s).drop j = []) : lookB s j = 0 := by rw [lookB_drop, h]; rfl
theorem drop_more {s : ByteArray} {j : Nat} {l m : List UInt8} (h : (sb s).drop j = l ++ m) : (sb s).drop (j + l.length) = m := by
  rw [← List.drop_drop, h, List.drop_left' rfl]
theorem skip_zero {s : ByteArray} {c : UInt8} {l : List UInt8} (h : sb s = c :: l) (hb : blankN c.toNat = false) (hc : c ≠ 34) : tokR s 0 = tokAt s 0 := by
  unfold tokR
  rw [List.drop_zero, h]
  simp only [skipA, hb, Bool.false_eq_true, if_false, if_neg hc]
theorem run_app {f : Nat → Bool} {s : ByteArray} {j : Nat} {l m : List UInt8} (h : (sb s).drop j = l ++ m) (hl : (l.all fun c => f c.toNat) = true) (hm : ∀ c r, m = c :: r → f c.toNat = false) : runE f s j = j + l.length := by
  unfold runE
  rw [h]
  congr 2
  induction l with
  | nil =>
    cases m with
    | nil => rfl
    | cons c r => rw [List.nil_append, List.takeWhile_cons, if_neg (by rw [hm c r rfl]; simp)]
  | cons c l ih =>
    rw [List.all_cons, Bool.and_eq_true] at hl
    rw [List.cons_append, List.takeWhile_cons, if_pos hl.1]
    congr 1
    have : ∀ (l : List UInt8), (l.all fun c => f c.toNat) = true → (l ++ m).takeWhile (fun c => f c.toNat) = l := by
      intro l
      induction l with
      | nil =>
        intro _
        cases m with
        | nil => rfl
        | cons c r => rw [List.nil_append, List.takeWhile_cons, if_neg (by rw [hm c r rfl]; simp)]
      | cons d l ih2 =>
        intro h2
        rw [List.all_cons, Bool.and_eq_true] at h2
        rw [List.cons_append, List.takeWhile_cons, if_pos h2.1, ih2 h2.2]
    exact this l hl.2
theorem part58 : partN 58 = false := rfl
theorem named_key {s : ByteArray} {j : Nat} {nm rest : List UInt8} (h : (sb s).drop j = nm ++ 58 :: rest) (hn : partA nm = true) (hr : ∀ c r, rest = c :: r → c.toNat ≠ 61) : namedR s j = (2, j + nm.length + 1) := by
  have h1 := run_app (f := partN) h hn (fun c r e => by injection e with e _; subst e; rfl)
  have h2 := drop_more h
  have h3 : (sb s).drop (j + nm.length + 1) = rest := by rw [← List.drop_drop, h2]; rfl
  unfold namedR
  rw [h1, look_cons h2]
  rw [if_pos]
  refine ⟨rfl, ?_⟩
  cases rest with
  | nil => rw [look_nil h3]; decide
  | cons c r => rw [look_cons h3]; exact hr c r rfl
theorem named_name {s : ByteArray} {j : Nat} {nm : List UInt8} (h : (sb s).drop j = nm) (hn : partA nm = true) : namedR s j = (1, j + nm.length) := by
  have h0 : (sb s).drop j = nm ++ [] := by rw [h, List.append_nil]
  have h1 := run_app (f := partN) h0 hn (fun c r e => by cases e)
  unfold namedR
  rw [h1, look_nil (drop_more h0), if_neg (fun h => by have := h.1; omega)]
def keyT : List (List UInt8) → List UInt8
  | [] => []
  | p :: ps => p ++ 58 :: keyT ps
theorem spl_key : ∀ l : List UInt8, keyT (spl l) = l ++ [58]
  | [] => rfl
  | c :: l => by
    have ih := spl_key l
    rw [spl]
    split
    · next h => rw [keyT, ih, h]; rfl
    · split
      · next h => rw [h] at ih; simp [keyT] at ih
      · next h => rw [h] at ih; rw [keyT] at ih ⊢; rw [List.cons_append, ih]; rfl
theorem name_parts {p : List UInt8} (h : nameL p = true) : partA p = true ∧ ∃ c r, p = c :: r ∧ letterN c.toNat = true := by
  unfold nameL isNameB at h
  simp only [Bool.and_eq_true, beq_iff_eq] at h
  obtain ⟨h1, h2⟩ := h
  cases p with
  | nil => rw [look_nil (by rw [sb_mk]; rfl)] at h2; cases h2
  | cons c r =>
    refine ⟨?_, c, r, rfl, by rwa [look_cons (by rw [sb_mk]; rfl)] at h2⟩
    unfold runE at h1
    rw [sb_mk, List.drop_zero, mkL_size, Nat.zero_add] at h1
    have h3 := (List.takeWhile_sublist (fun c : UInt8 => partN c.toNat) (l := c :: r)).eq_of_length h1
    have h4 := List.all_takeWhile (p := fun c : UInt8 => partN c.toNat) (l := c :: r)
    rwa [h3] at h4
theorem letter_not61 {c : Nat} (h : letterN c = true) : c ≠ 61 := fun e => by subst e; cases h
theorem join_key {s : ByteArray} : ∀ (ps : List (List UInt8)) (j : Nat), (sb s).drop j = keyT ps → (∀ p ∈ ps, nameL p = true) → j ≤ s.size → joinW s j = s.size
  | [], j, h, _, hj => by
    rw [joinW, dif_neg]
    · have := congrArg List.length h
      rw [List.length_drop, sb_len] at this
      simp [keyT] at this
      omega
    · rintro ⟨⟨h1, _⟩, _⟩
      rw [look_nil h] at h1
      cases h1
  | p :: ps, j, h, hp, hj => by
    obtain ⟨h1, c, r, rfl, h2⟩ := name_parts (hp p (List.mem_cons_self ..))
    rw [keyT] at h
    have h3 : (sb s).drop (j + (c :: r).length + 1) = keyT ps := by
      rw [← List.drop_drop, drop_more h]; rfl
    have h4 : ∀ d t, keyT ps = d :: t → d.toNat ≠ 61 := by
      intro d t e
      cases ps with
      | nil => cases e
      | cons p' ps' =>
        obtain ⟨_, c', r', rfl, h5⟩ := name_parts (hp p' (List.mem_cons_of_mem _ (List.mem_cons_self ..)))
        rw [keyT] at e
        injection e with e _
        rw [← e]
        exact letter_not61 h5
    have h5 := named_key h h1 h4
    have hl := congrArg List.length h
    simp only [List.length_drop, sb_len, List.length_append, List.length_cons] at hl
    rw [joinW, dif_pos, h5]
    · exact join_key ps _ h3 (fun q hq => hp q (List.mem_cons_of_mem _ hq)) (by simp only [List.length_cons]; omega)
    · rw [h5]
      exact ⟨⟨by rw [look_cons h]; exact h2, rfl⟩, by simp; omega, by simp; omega⟩
theorem quoA_dbl : ∀ (l : List UInt8) (p : Nat), quoA p (dbl l ++ [39]) = some (p + (dbl l).length + 1)
  | [], p => rfl
  | c :: l, p => by
    rw [dbl]
    split
    · rw [List.cons_append, List.cons_append, quoA, if_pos rfl, if_pos rfl, quoA_dbl l (p + 2)]
      simp only [List.length_cons, Option.some.injEq]; omega
    · next hc =>
      have h := quoA_dbl l (p + 1)
      rw [List.cons_append]
      cases hd : dbl l ++ [39] with
      | nil => simp at hd
      | cons d t =>
        rw [hd] at h
        rw [quoA, if_neg hc, h]
        simp only [List.length_cons, Option.some.injEq]; omega
theorem unq_dbl : ∀ l : List UInt8, unq (dbl l) = l
  | [] => rfl
  | c :: l => by
    have ih := unq_dbl l
    rw [dbl]
    split
    · next hc => rw [unq, if_pos ⟨rfl, rfl⟩, ih, hc]
    · next hc =>
      cases hd : dbl l with
      | nil => rw [hd] at ih; rw [← ih]; rfl
      | cons d t => rw [hd] at ih; rw [unq, if_neg (fun h => hc h.1), ih]
theorem opc_facts : ∀ n : Fin 256, isOpc (UInt8.ofNat n) = true → letterN n = false ∧ digitN n = false ∧ blankN n = false ∧ n.1 ≠ 34 ∧ n.1 ≠ 35 ∧ n.1 ≠ 36 ∧ n.1 ≠ 39 ∧ n.1 ≠ 40 := by decide +kernel
theorem op_list {l : List UInt8} (h : isOpL l = true) : ∃ c r, l = c :: r ∧ (r = [] ∨ ∃ d, r = [d]) ∧ letterN c.toNat = false ∧ digitN c.toNat = false ∧ blankN c.toNat = false ∧ c.toNat ≠ 34 ∧ c.toNat ≠ 35 ∧ c.toNat ≠ 36 ∧ c.toNat ≠ 39 ∧ c.toNat ≠ 40 := by
  unfold isOpL at h
  split at h
  · next ha =>
    cases l with
    | nil => simp at h
    | cons c r =>
      rw [List.all_cons, Bool.and_eq_true] at ha
      have hf := opc_facts ⟨c.toNat, c.toNat_lt⟩ (by rw [show UInt8.ofNat ((⟨c.toNat, c.toNat_lt⟩ : Fin 256) : Nat) = c from UInt8.ofNat_toNat]; exact ha.1)
      refine ⟨c, r, rfl, ?_, hf⟩
      cases r with
      | nil => exact .inl rfl
      | cons d t =>
        cases t with
        | nil => exact .inr ⟨d, rfl⟩
        | cons e u => simp at h
  · have : l = [124] := by simpa using h
    subst this
    exact ⟨124, [], rfl, .inl rfl, by decide⟩
theorem op_read {s : ByteArray} {j : Nat} {l : List UInt8} (h : (sb s).drop j = l) (hj : j ≤ s.size) (ho : isOpL l = true) : opF s j 2 = l.length := by
  have hl := congrArg List.length h
  rw [List.length_drop, sb_len] at hl
  have hm : ∀ k, midL s j (j + k) = l.take k := fun k => by
    unfold midL
    rw [List.drop_take, h, show j + k - j = k by omega]
  obtain ⟨c, r, rfl, hr, _⟩ := op_list ho
  rcases hr with rfl | ⟨d, rfl⟩
  · simp only [List.length_cons, List.length_nil] at hl ⊢
    rw [opF, if_neg (by omega), opF, if_pos]
    refine ⟨by omega, ?_⟩
    rw [hm]; exact ho
  · simp only [List.length_cons, List.length_nil] at hl ⊢
    rw [opF, if_pos]
    refine ⟨by omega, ?_⟩
    rw [hm]; exact ho
end Go.Proofs.YtmdkneollidkfaaGreatDoor.Fl

/-
  The lexer: a token as it is written is read back; what a token of a text is.
-/
namespace Go.Proofs.YtmdkneollidkfaaGreatDoor.Fl
open Go.RowKit

theorem letter_facts : ∀ n : Fin 256, letterN n = true → digitN n = false ∧ blankN n = false ∧ n.1 ≠ 34 ∧ n.1 ≠ 40 ∧ n.1 ≠ 39 ∧ n.1 ≠ 58 := by decide +kernel
theorem letter_f {c : UInt8} (h : letterN c.toNat = true) : digitN c.toNat = false ∧ blankN c.toNat = false ∧ c.toNat ≠ 34 ∧ c.toNat ≠ 40 ∧ c.toNat ≠ 39 ∧ c.toNat ≠ 58 := letter_facts ⟨c.toNat, c.toNat_lt⟩ h
theorem digit_facts : ∀ n : Fin 256, digitN n = true → letterN n = false ∧ blankN n = false ∧ n.1 ≠ 34 := by decide +kernel
theorem digit_f {c : UInt8} (h : digitN c.toNat = true) : letterN c.toNat = false ∧ blankN c.toNat = false ∧ c.toNat ≠ 34 := digit_facts ⟨c.toNat, c.toNat_lt⟩ h
theorem ne_of_toNat {c : UInt8} {n : Nat} (d : UInt8) (hd : d.toNat = n) (h : c.toNat ≠ n) : c ≠ d := fun e => h (by rw [e, hd])
theorem mid_all (s : ByteArray) (j : Nat) : midL s j s.size = (sb s).drop j := by
  unfold midL; rw [List.take_of_length_le (by rw [sb_len]; exact Nat.le_refl _)]
theorem quo_read {s : ByteArray} {j : Nat} {wd : List UInt8} (h : (sb s).drop j = dbl wd ++ [39]) (hj : j ≤ s.size) : quoA j ((sb s).drop j) = some s.size ∧ unq (midL s j (s.size - 1)) = wd := by
  have hl := congrArg List.length h
  simp only [List.length_drop, sb_len, List.length_append, List.length_cons, List.length_nil] at hl
  refine ⟨by rw [h, quoA_dbl]; congr 1; omega, ?_⟩
  unfold midL
  rw [List.drop_take, h, List.take_left' (by omega), unq_dbl]
theorem back_name {wd : List UInt8} (hl : wd.length ≤ 64) (hp : partA wd = true) {c : UInt8} {r : List UInt8} (hc : wd = c :: r) (hlc : letterN c.toNat = true) : tokR (mkB wd) 0 = .inl (1, wd, 0, 0, wd.length) := by
  have hsb : sb (mkB wd) = wd := sb_mk wd
  have hn := named_name (s := mkB wd) (j := 0) (by rw [hsb]; rfl) hp
  rw [Nat.zero_add] at hn
  obtain ⟨_, hb, h34, _⟩ := letter_f hlc
  rw [skip_zero (by rw [hsb, hc]) hb (ne_of_toNat 34 rfl h34)]
  have hlk : lookB (mkB wd) 0 = c.toNat := look_cons (l := r) (by rw [hsb, hc]; rfl)
  have hm : midL (mkB wd) 0 wd.length = wd := by unfold midL; rw [hsb, List.take_length]; rfl
  unfold tokAt
  rw [if_neg (by rw [mkB_size, hc]; simp), hlk, if_pos hlc, hn, hm, if_neg (by omega)]
theorem back_key {nm : List UInt8} (hl : nm.length + 1 ≤ 64) (hp : partA nm = true) {c : UInt8} {r : List UInt8} (hc : nm = c :: r) (hlc : letterN c.toNat = true) : tokR (mkB (nm ++ [58])) 0 = .inl (2, nm ++ [58], 0, 0, (nm ++ [58]).length) := by
  have hsb : sb (mkB (nm ++ [58])) = nm ++ [58] := sb_mk _
  have hn := named_key (s := mkB (nm ++ [58])) (j := 0) (rest := []) (by rw [hsb]; rfl) hp (fun _ _ e => by cases e)
  rw [Nat.zero_add] at hn
  obtain ⟨_, hb, h34, _⟩ := letter_f hlc
  rw [skip_zero (c := c) (l := r ++ [58]) (by rw [hsb, hc]; rfl) hb (ne_of_toNat 34 rfl h34)]
  have hlk : lookB (mkB (nm ++ [58])) 0 = c.toNat := look_cons (l := r ++ [58]) (by rw [hsb, hc]; rfl)
  have hll : (nm ++ [58]).length = nm.length + 1 := by simp
  have hm : midL (mkB (nm ++ [58])) 0 (nm.length + 1) = nm ++ [58] := by unfold midL; rw [hsb, ← hll, List.take_length]; rfl
  unfold tokAt
  rw [if_neg (by rw [mkB_size, hc]; simp), hlk, if_pos hlc, hn, hm, if_neg (by omega), hll]
theorem back_int {n : Int} (hr : InR n) (h0 : 0 ≤ n) : tokR (mkB (Lib.itoa n)) 0 = .inl (3, [], n, 0, (Lib.itoa n).length) := by
  obtain ⟨hf, hsp⟩ := itoa_form n
  obtain ⟨hpv, hpe⟩ := itoa_pv hr
  have hneg : isNeg (Lib.itoa n) = false := by rw [(itoa_parts n).2]; simp; omega
  have hbody : body (Lib.itoa n) = Lib.itoa n := by
    unfold isNeg at hneg
    unfold body
    rw [if_neg]
    intro h
    rw [h] at hneg
    simp at hneg
  unfold form at hf
  rw [hbody, Bool.and_eq_true] at hf
  generalize Lib.itoa n = l at *
  have hsb : sb (mkB l) = l := sb_mk l
  cases l with
  | nil => simp at hf
  | cons c r =>
    have hall : ((c :: r).all fun c => digitN c.toNat) = true := hf.1
    have hc : digitN c.toNat = true := by rw [List.all_cons, Bool.and_eq_true] at hall; exact hall.1
    obtain ⟨hlc, hb, h34⟩ := digit_f hc
    rw [skip_zero hsb hb (ne_of_toNat 34 rfl h34)]
    have hlk : lookB (mkB (c :: r)) 0 = c.toNat := look_cons (l := r) (by rw [hsb]; rfl)
    have hrun := run_app (f := digitN) (s := mkB (c :: r)) (j := 0) (l := c :: r) (m := []) (by rw [hsb, List.append_nil]; rfl) hall (fun _ _ e => by cases e)
    rw [Nat.zero_add] at hrun
    have hm : midL (mkB (c :: r)) 0 (c :: r).length = c :: r := by unfold midL; rw [hsb, List.take_length]; rfl
    unfold tokAt
    rw [if_neg (by rw [mkB_size]; simp), hlk, if_neg (by rw [hlc]; simp), if_pos hc, hrun, hm, if_pos hpe, hpv]
theorem back_text {wd : List UInt8} (hl : wd.length ≤ 4096) : tokR (mkB (quoL wd)) 0 = .inl (4, wd, 0, 0, (quoL wd).length) := by
  have hsb : sb (mkB (quoL wd)) = 39 :: (dbl wd ++ [39]) := sb_mk _
  rw [skip_zero hsb rfl (by decide)]
  have hlk : lookB (mkB (quoL wd)) 0 = 39 := look_cons (j := 0) (c := 39) (l := dbl wd ++ [39]) (by rw [hsb]; rfl)
  have hsz : (mkB (quoL wd)).size = (quoL wd).length := mkB_size _
  have hq := quo_read (s := mkB (quoL wd)) (j := 1) (wd := wd) (by rw [hsb]; rfl) (by rw [hsz]; simp [quoL])
  unfold tokAt
  rw [if_neg (by rw [hsz]; simp [quoL]), hlk, if_neg (by decide), if_neg (by decide), if_neg (by decide), if_pos rfl, Nat.zero_add, hq.1]
  simp only [hq.2]
  rw [if_neg (by omega), hsz]
theorem back_op {wd : List UInt8} (h : isOpL wd = true) : tokR (mkB wd) 0 = .inl (6, wd, 0, 0, wd.length) := by
  have hsb : sb (mkB wd) = wd := sb_mk wd
  have hr := op_read (s := mkB wd) (j := 0) (l := wd) (by rw [hsb]; rfl) (Nat.zero_le _) h
  obtain ⟨c, r, rfl, _, h1, h2, h3, h4, h5, h6, h7, h8⟩ := op_list h
  rw [skip_zero hsb h3 (ne_of_toNat 34 rfl h4)]
  have hlk : lookB (mkB (c :: r)) 0 = c.toNat := look_cons (l := r) (by rw [hsb]; rfl)
  have hm : midL (mkB (c :: r)) 0 (c :: r).length = c :: r := by unfold midL; rw [hsb, List.take_length]; rfl
  unfold tokAt
  rw [if_neg (by rw [mkB_size]; simp), hlk, if_neg (by rw [h1]; simp), if_neg (by rw [h2]; simp), if_neg h6, if_neg h7, if_neg h5]
  unfold markR
  rw [hr, if_pos (by simp), Nat.zero_add, hm]
  rfl
theorem hash_start {l : List UInt8} : tokR (mkB (35 :: l)) 0 = ofKw 0 (hashR (mkB (35 :: l)) 0) := by
  have hsb : sb (mkB (35 :: l)) = 35 :: l := sb_mk _
  rw [skip_zero hsb rfl (by decide)]
  have hlk : lookB (mkB (35 :: l)) 0 = 35 := look_cons (j := 0) (c := 35) (l := l) (by rw [hsb]; rfl)
  unfold tokAt
  rw [if_neg (by rw [mkB_size]; simp), hlk, if_neg (by decide), if_neg (by decide), if_neg (by decide), if_neg (by decide), if_pos rfl]
theorem back_quoted {wd : List UInt8} (hl : wd.length ≤ 64) : tokR (mkB (35 :: quoL wd)) 0 = .inl (5, wd, 0, 0, (35 :: quoL wd).length) := by
  rw [hash_start]
  have hsb : sb (mkB (35 :: quoL wd)) = 35 :: 39 :: (dbl wd ++ [39]) := sb_mk _
  have hlk : lookB (mkB (35 :: quoL wd)) 1 = 39 := look_cons (j := 1) (c := 39) (l := dbl wd ++ [39]) (by rw [hsb]; rfl)
  have hsz : (mkB (35 :: quoL wd)).size = (35 :: quoL wd).length := mkB_size _
  have hq := quo_read (s := mkB (35 :: quoL wd)) (j := 2) (wd := wd) (by rw [hsb]; rfl) (by rw [hsz]; simp [quoL])
  unfold hashR
  rw [Nat.zero_add, Nat.zero_add, hlk, if_neg (by decide), if_pos rfl, hq.1]
  simp only [hq.2]
  rw [if_neg (by omega), hsz]
  rfl
theorem back_sym {wd : List UInt8} (hl : wd.length ≤ 64) (ha : 0 ≤ arityL (mkB wd)) : tokR (mkB (35 :: wd)) 0 = .inl (5, wd, 0, 0, (35 :: wd).length) := by
  rw [hash_start]
  have hsb : sb (mkB (35 :: wd)) = 35 :: wd := sb_mk _
  have hsw : sb (mkB wd) = wd := sb_mk wd
  have hsz : (mkB (35 :: wd)).size = wd.length + 1 := mkB_size _
  have hd : (sb (mkB (35 :: wd))).drop 1 = wd := by rw [hsb]; rfl
  have hmid : midL (mkB (35 :: wd)) 1 (wd.length + 1) = wd := by rw [← hsz, mid_all, hd]
  have hjoin : ∀ c r, wd = c :: r → letterN c.toNat = true → joinR (mkB (35 :: wd)) 1 = wd.length + 1 → hashR (mkB (35 :: wd)) 0 = .inl (5, wd, wd.length + 1) := by
    intro c r hc hlc hj
    obtain ⟨_, _, _, h40, h39, _⟩ := letter_f hlc
    have hlk : lookB (mkB (35 :: wd)) 1 = c.toNat := look_cons (l := r) (by rw [hd, hc])
    unfold hashR
    rw [Nat.zero_add, hlk, if_neg h40, if_neg h39, if_pos hlc, hj, hmid, if_neg (by omega)]
  suffices h : hashR (mkB (35 :: wd)) 0 = .inl (5, wd, wd.length + 1) by rw [h]; rfl
  unfold arityL at ha
  rw [mkB_size, if_neg (by omega), hsw] at ha
  split at ha
  · next hn =>
    obtain ⟨hp, c, r, hc, hlc⟩ := name_parts (p := wd) hn
    refine hjoin c r hc hlc ?_
    unfold joinR
    rw [named_name hd hp, if_neg (by show ¬ (1 = 2); decide)]
    show 1 + wd.length = _
    omega
  · split at ha
    · next ho =>
      have hr := op_read (s := mkB (35 :: wd)) (j := 1) hd (by rw [hsz]; omega) ho
      obtain ⟨c, r, hc, _, h1, h2, h3, h4, h5, h6, h7, h8⟩ := op_list ho
      have hlk : lookB (mkB (35 :: wd)) 1 = c.toNat := look_cons (l := r) (by rw [hd, hc])
      unfold hashR
      rw [Nat.zero_add, hlk, if_neg h8, if_neg h7, if_neg (by rw [h1]; simp), hr, if_neg (by rw [hc]; simp), show 1 + wd.length = wd.length + 1 by omega, hmid]
    · split at ha
      · next hsf =>
        unfold keysL at ha
        split at ha
        · next hal =>
          have hk : keyT (spl (Lib.trimSuffix wd [58])) = wd := by
            rw [spl_key]
            unfold Lib.hasSuffix at hsf
            obtain ⟨t, ht⟩ := List.isSuffixOf_iff_suffix.1 hsf
            unfold Lib.trimSuffix Lib.hasSuffix
            rw [if_pos hsf, ← ht]
            simp
          have hne : ∀ p ∈ spl (Lib.trimSuffix wd [58]), nameL p = true := fun p hp => List.all_eq_true.1 hal p hp
          generalize spl (Lib.trimSuffix wd [58]) = ps at hk hne
          cases ps with
          | nil => subst hk; exact absurd hsf (by decide)
          | cons p ps =>
            obtain ⟨hp, c, r, rfl, hlc⟩ := name_parts (hne p (List.mem_cons_self ..))
            refine hjoin c (r ++ 58 :: keyT ps) hk.symm hlc ?_
            have hd2 : (sb (mkB (35 :: wd))).drop 1 = (c :: r) ++ 58 :: keyT ps := by rw [hd, ← hk]; rfl
            have h4 : ∀ d t, keyT ps = d :: t → d.toNat ≠ 61 := by
              intro d t e
              cases ps with
              | nil => cases e
              | cons p' ps' =>
                obtain ⟨_, c', r', rfl, h5⟩ := name_parts (hne p' (List.mem_cons_of_mem _ (List.mem_cons_self ..)))
                rw [keyT] at e
                injection e with e _
                rw [← e]
                exact letter_not61 h5
            have hl2 := congrArg List.length hk
            simp only [keyT, List.length_append, List.length_cons] at hl2
            unfold joinR
            rw [named_key hd2 hp h4, if_pos rfl]
            show joinW _ (1 + (c :: r).length + 1) = _
            rw [join_key ps _ (by rw [← List.drop_drop, drop_more hd2]; rfl) (fun q hq => hne q (List.mem_cons_of_mem _ hq)) (by rw [hsz]; simp only [List.length_cons]; omega), hsz]
        · omega
      · omega
/-- what a token is written as is read back as it -/
theorem spell_back {k : Nat} {wd : List UInt8} {n : Int} (h : TokV k wd n) : tokR (mkB (writL k wd n)) 0 = .inl (k, wd, n, 0, (writL k wd n).length) := by
  rcases h with ⟨rfl, rfl, hl, hp, c, r, hc, hlc⟩ | ⟨rfl, rfl, hl, nm, rfl, hp, c, r, hc, hlc⟩ | ⟨rfl, rfl, hr, h0⟩ | ⟨rfl, rfl, hl⟩ | ⟨rfl, rfl, hl⟩ | ⟨rfl, rfl, ho⟩ | ⟨hk, rfl, rfl⟩
  · exact back_name hl hp hc hlc
  · exact back_key (by simpa using hl) hp hc hlc
  · exact back_int hr h0
  · exact back_text hl
  · show tokR (mkB (if arityL (mkB wd) < 0 then 35 :: quoL wd else 35 :: wd)) 0 = .inl (5, wd, 0, 0, (if arityL (mkB wd) < 0 then 35 :: quoL wd else 35 :: wd).length)
    split
    · exact back_quoted hl
    · exact back_sym hl (by omega)
  · exact back_op ho
  · rcases hk with rfl | ⟨h7, h16⟩
    · decide +kernel
    · obtain rfl | rfl | rfl | rfl | rfl | rfl | rfl | rfl | rfl | rfl : k = 7 ∨ k = 8 ∨ k = 9 ∨ k = 10 ∨ k = 11 ∨ k = 12 ∨ k = 13 ∨ k = 14 ∨ k = 15 ∨ k = 16 := by omega
      all_goals decide +kernel
end Go.Proofs.YtmdkneollidkfaaGreatDoor.Fl

/-
  The lexer: what a token of a text is; where it stands.
-/
namespace Go.Proofs.YtmdkneollidkfaaGreatDoor.Fl
open Go.RowKit

theorem drop_look {s : ByteArray} {q c : Nat} (h : lookB s q = c) (hc : c ≠ 0) : (sb s).drop q = UInt8.ofNat c :: (sb s).drop (q + 1) := by
  obtain ⟨hp, e⟩ := lookB_pos h hc
  rw [drop_at hp]
  congr 1
  rw [← e, UInt8.ofNat_toNat]
theorem mid_drop (s : ByteArray) (a n : Nat) : midL s a (a + n) = ((sb s).drop a).take n := by
  unfold midL
  rw [List.drop_take, show a + n - a = n by omega]
theorem run_mid (f : Nat → Bool) (s : ByteArray) (q : Nat) : midL s q (runE f s q) = ((sb s).drop q).takeWhile fun c => f c.toNat := by
  unfold runE
  rw [mid_drop]
  exact (List.prefix_iff_eq_take.1 (List.takeWhile_prefix _)).symm
theorem run_split (f : Nat → Bool) (s : ByteArray) (q : Nat) : (sb s).drop q = midL s q (runE f s q) ++ (sb s).drop (runE f s q) := by
  conv => lhs; rw [← List.take_append_drop (runE f s q - q) ((sb s).drop q)]
  have h : q ≤ runE f s q := by unfold runE; omega
  rw [List.drop_drop, show q + (runE f s q - q) = runE f s q by omega]
  congr 1
  rw [← mid_drop, show q + (runE f s q - q) = runE f s q by omega]
theorem quoA_form : ∀ (n : Nat) (l : List UInt8) (j e : Nat), l.length ≤ n → quoA j l = some e → ∃ m rest, l = dbl m ++ 39 :: rest ∧ e = j + (dbl m).length + 1
  | 0, l, j, e, hl, h => by
    have : l = [] := List.eq_nil_of_length_eq_zero (by omega)
    subst this
    cases h
  | n + 1, [], j, e, hl, h => by cases h
  | n + 1, [c], j, e, hl, h => by
    rw [quoA] at h
    split at h
    · next hc => injection h with h; exact ⟨[], [], by rw [hc]; rfl, by rw [← h]; rfl⟩
    · cases h
  | n + 1, c :: d :: l, j, e, hl, h => by
    rw [quoA] at h
    split at h
    · next hc =>
      split at h
      · next hd =>
        obtain ⟨m, rest, h1, h2⟩ := quoA_form n l (j + 2) e (by simp at hl; omega) h
        exact ⟨39 :: m, rest, by rw [hc, hd, h1]; rfl, by rw [h2]; simp [dbl]; omega⟩
      · injection h with h
        exact ⟨[], d :: l, by rw [hc]; rfl, by rw [← h]; rfl⟩
    · next hc =>
      obtain ⟨m, rest, h1, h2⟩ := quoA_form n (d :: l) (j + 1) e (by simp at hl ⊢; omega) h
      exact ⟨c :: m, rest, by rw [h1, dbl, if_neg hc]; rfl, by rw [h2, dbl, if_neg hc, List.length_cons]; omega⟩
theorem quo_mid {s : ByteArray} {a p : Nat} (h : quoA a ((sb s).drop a) = some p) : ∃ m rest, (sb s).drop a = dbl m ++ 39 :: rest ∧ p = a + (dbl m).length + 1 ∧ unq (midL s a (p - 1)) = m := by
  obtain ⟨m, rest, h1, h2⟩ := quoA_form _ _ _ _ (Nat.le_refl _) h
  refine ⟨m, rest, h1, h2, ?_⟩
  rw [show p - 1 = a + (dbl m).length by omega, mid_drop, h1, List.take_left' rfl, unq_dbl]
theorem opF_ok {s : ByteArray} {p : Nat} : ∀ k, opF s p k ≠ 0 → isOpL (midL s p (p + opF s p k)) = true
  | 0, h => absurd rfl h
  | k + 1, h => by
    rw [opF] at h ⊢
    split
    · next hc => rw [if_pos hc] at h; exact hc.2
    · next hc => rw [if_neg hc] at h; exact opF_ok k h
theorem marks_facts : ∀ n : Fin 256, 0 ≤ Lib.indexByte marksL (UInt8.ofNat n) → (Lib.indexByte marksL (UInt8.ofNat n)).toNat < 7 ∧ marksL.getD (Lib.indexByte marksL (UInt8.ofNat n)).toNat 0 = UInt8.ofNat n ∧ n.1 ≠ 0 := by decide +kernel
theorem inR_byte {c : Nat} (h : c < 256) : InR (c : Int) ∧ (0 : Int) ≤ c := by unfold InR; omega
theorem tokAt_v {s : ByteArray} {q k q0 p : Nat} {wd : List UInt8} {n : Int} (hq : q ≤ s.size) (h : tokAt s q = .inl (k, wd, n, q0, p)) : TokV k wd n ∧ (k ≠ 3 → k ≠ 5 → midL s q p = writL k wd n) := by
  unfold tokAt at h
  split at h
  · simp only [Sum.inl.injEq, Prod.mk.injEq] at h
    obtain ⟨rfl, rfl, rfl, rfl, rfl⟩ := h
    exact ⟨.inr (.inr (.inr (.inr (.inr (.inr ⟨.inl rfl, rfl, rfl⟩))))), fun _ _ => mid_same s _⟩
  next he =>
  split at h
  · next hl =>
    split at h
    · cases h
    · next h64 =>
      simp only [Sum.inl.injEq, Prod.mk.injEq] at h
      obtain ⟨rfl, rfl, rfl, rfl, rfl⟩ := h
      have hpos : lookB s q ≠ 0 := fun e => by rw [e] at hl; cases hl
      have hd := drop_look rfl hpos
      have hrm := run_mid partN s q
      have hpa : partA (midL s q (runE partN s q)) = true := by rw [hrm]; exact List.all_takeWhile
      have hlc : letterN (UInt8.ofNat (lookB s q)).toNat = true := by
        rw [UInt8.toNat_ofNat', Nat.mod_eq_of_lt (lookB_lt s q)]; exact hl
      have hcons : ∃ c r, midL s q (runE partN s q) = c :: r ∧ letterN c.toNat = true := by
        rw [hrm, hd, List.takeWhile_cons, if_pos (letter_part hlc)]
        exact ⟨_, _, rfl, hlc⟩
      have hsp := run_split partN s q
      have hle := (runE_le (f := partN) hq).1
      unfold namedR at h64 ⊢
      split
      · next hk =>
        rw [if_pos hk] at h64
        have hd2 := drop_look hk.1 (by decide)
        have hmid : midL s q (runE partN s q + 1) = midL s q (runE partN s q) ++ [58] := by
          rw [show runE partN s q + 1 = q + (runE partN s q - q + 1) by omega, mid_drop, hsp, hd2]
          have hll : (midL s q (runE partN s q)).length = runE partN s q - q := by
            rw [hrm]; unfold runE; omega
          rw [← hll, List.take_append, List.take_of_length_le (by omega), show (midL s q (runE partN s q)).length + 1 - (midL s q (runE partN s q)).length = 1 by omega]
          rfl
        refine ⟨.inr (.inl ⟨rfl, rfl, by omega, _, hmid, hpa, hcons⟩), fun _ _ => rfl⟩
      · next hk =>
        rw [if_neg hk] at h64
        exact ⟨.inl ⟨rfl, rfl, by omega, hpa, hcons⟩, fun _ _ => rfl⟩
  split at h
  · next hdg =>
    split at h
    · next hpe =>
      simp only [Sum.inl.injEq, Prod.mk.injEq] at h
      obtain ⟨rfl, rfl, rfl, rfl, rfl⟩ := h
      refine ⟨.inr (.inr (.inl ⟨rfl, rfl, ?_⟩)), fun h _ => absurd rfl h⟩
      have hrm := run_mid digitN s q
      have hall : ((midL s q (runE digitN s q)).all fun c => digitN c.toNat) = true := by rw [hrm]; exact List.all_takeWhile
      generalize midL s q (runE digitN s q) = l at hpe hall
      unfold pe at hpe
      split at hpe
      · next hf =>
        split at hpe
        · next hin =>
          have hneg : isNeg l = false := by
            cases l with
            | nil => rfl
            | cons c r =>
              rw [List.all_cons, Bool.and_eq_true] at hall
              unfold isNeg
              have : c ≠ 45 := fun e => by rw [e] at hall; exact absurd hall.1 (by decide)
              simp [this]
          unfold pv
          rw [if_pos hf, if_pos hin]
          refine ⟨hin, ?_⟩
          unfold spelt
          rw [hneg]
          simp
        · cases hpe
      · cases hpe
    · cases h
  split at h
  · split at h
    · cases h
    · simp only [Sum.inl.injEq, Prod.mk.injEq] at h
      obtain ⟨rfl, rfl, rfl, rfl, rfl⟩ := h
      exact ⟨.inr (.inr (.inl ⟨rfl, rfl, inR_byte (lookB_lt _ _)⟩)), fun h _ => absurd rfl h⟩
  split at h
  · next h39 =>
    split at h
    · cases h
    · next x hx =>
      split at h
      · cases h
      · next h4 =>
        simp only [Sum.inl.injEq, Prod.mk.injEq] at h
        obtain ⟨rfl, rfl, rfl, rfl, rfl⟩ := h
        obtain ⟨m, rest, h1, h2, h3⟩ := quo_mid hx
        rw [h3] at h4 ⊢
        refine ⟨.inr (.inr (.inr (.inl ⟨rfl, rfl, by omega⟩))), fun _ _ => ?_⟩
        have hd := drop_look h39 (by decide)
        show midL s q x = quoL m
        rw [h2, show q + 1 + (dbl m).length + 1 = q + ((dbl m).length + 2) by omega, mid_drop, hd, h1, List.take_succ_cons, List.take_append, List.take_of_length_le (by omega), show (dbl m).length + 1 - (dbl m).length = 1 by omega]
        rfl
  split at h
  · next h35 =>
    obtain ⟨h1, rfl, _⟩ := ofKw_inl h
    have hd := drop_look h35 (by decide)
    unfold hashR at h1
    split at h1
    · next h40 =>
      simp only [Sum.inl.injEq, Prod.mk.injEq] at h1
      obtain ⟨rfl, rfl, rfl⟩ := h1
      have hd2 := drop_look h40 (by decide)
      refine ⟨.inr (.inr (.inr (.inr (.inr (.inr ⟨.inr ⟨by decide, by decide⟩, rfl, rfl⟩))))), fun _ _ => ?_⟩
      rw [mid_drop, hd, hd2]
      rfl
    split at h1
    · split at h1
      · cases h1
      · split at h1
        · cases h1
        · next h64 =>
          simp only [Sum.inl.injEq, Prod.mk.injEq] at h1
          obtain ⟨rfl, rfl, rfl⟩ := h1
          exact ⟨.inr (.inr (.inr (.inr (.inl ⟨rfl, rfl, by omega⟩)))), fun _ h => absurd rfl h⟩
    split at h1
    · split at h1
      · cases h1
      · next h64 =>
        simp only [Sum.inl.injEq, Prod.mk.injEq] at h1
        obtain ⟨rfl, rfl, rfl⟩ := h1
        exact ⟨.inr (.inr (.inr (.inr (.inl ⟨rfl, rfl, by omega⟩)))), fun _ h => absurd rfl h⟩
    split at h1
    · cases h1
    · simp only [Sum.inl.injEq, Prod.mk.injEq] at h1
      obtain ⟨rfl, rfl, rfl⟩ := h1
      have := (opF_le s (q + 1) (by omega) 2).2
      refine ⟨.inr (.inr (.inr (.inr (.inl ⟨rfl, rfl, ?_⟩)))), fun _ h => absurd rfl h⟩
      rw [mid_drop, List.length_take]
      omega
  · next h35 =>
    obtain ⟨h1, rfl, _⟩ := ofKw_inl h
    unfold markR at h1
    split at h1
    · next ho =>
      simp only [Sum.inl.injEq, Prod.mk.injEq] at h1
      obtain ⟨rfl, rfl, rfl⟩ := h1
      exact ⟨.inr (.inr (.inr (.inr (.inr (.inl ⟨rfl, rfl, opF_ok 2 ho⟩))))), fun _ _ => rfl⟩
    split at h1
    · next hi =>
      simp only [Sum.inl.injEq, Prod.mk.injEq] at h1
      obtain ⟨rfl, rfl, rfl⟩ := h1
      obtain ⟨f1, f2, f3⟩ := marks_facts ⟨lookB s q, lookB_lt s q⟩ hi
      change (Lib.indexByte marksL (UInt8.ofNat (lookB s q))).toNat < 7 at f1
      change marksL.getD (Lib.indexByte marksL (UInt8.ofNat (lookB s q))).toNat 0 = UInt8.ofNat (lookB s q) at f2
      have hd := drop_look rfl f3
      refine ⟨.inr (.inr (.inr (.inr (.inr (.inr ⟨.inr ⟨by omega, by omega⟩, rfl, rfl⟩))))), fun _ _ => ?_⟩
      rw [mid_drop, hd]
      unfold writL
      rw [if_neg (by omega), if_neg (by omega), if_neg (by omega), if_neg (by omega), if_neg (by omega), if_pos (by omega), Nat.add_sub_cancel_left, f2]
      rfl
    split at h1
    · cases h1
    next h58 =>
    have h58' : lookB s q = 58 := by omega
    have hd := drop_look h58' (by decide)
    split at h1
    · simp only [Sum.inl.injEq, Prod.mk.injEq] at h1
      obtain ⟨rfl, rfl, rfl⟩ := h1
      refine ⟨.inr (.inr (.inr (.inr (.inr (.inr ⟨.inr ⟨by decide, by decide⟩, rfl, rfl⟩))))), fun _ _ => ?_⟩
      rw [mid_drop, hd]
      rfl
    · next h61 =>
      simp only [Sum.inl.injEq, Prod.mk.injEq] at h1
      obtain ⟨rfl, rfl, rfl⟩ := h1
      have h61' : lookB s (q + 1) = 61 := by omega
      have hd2 := drop_look h61' (by decide)
      refine ⟨.inr (.inr (.inr (.inr (.inr (.inr ⟨.inr ⟨by decide, by decide⟩, rfl, rfl⟩))))), fun _ _ => ?_⟩
      rw [mid_drop, hd, hd2]
      rfl
end Go.Proofs.YtmdkneollidkfaaGreatDoor.Fl
