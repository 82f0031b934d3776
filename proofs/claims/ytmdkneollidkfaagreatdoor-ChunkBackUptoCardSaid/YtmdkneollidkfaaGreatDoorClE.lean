/-
  What is written of classes and methods, and that it is read back.
-/
import Derived.Test.YtmdkneollidkfaaGreatDoorClC
namespace Go.Proofs.YtmdkneollidkfaaGreatDoor.Fl
open Go.RowKit Go.Shelf

/-! ### what is written -/
def superW (sp : List UInt8) : List UInt8 := if sp = [] then nilL else sp
def fldW : List (List UInt8) → List UInt8
  | [] => []
  | [x] => x
  | x :: y :: l => x ++ 32 :: fldW (y :: l)
/-- " subclass: #" and " fields: '" -/
abbrev subW : List UInt8 := [32, 115, 117, 98, 99, 108, 97, 115, 115, 58, 32, 35]
abbrev fdsW : List UInt8 := [32, 102, 105, 101, 108, 100, 115, 58, 32, 39]
def clsT (c : Cls) : List UInt8 := superW c.2.1 ++ (subW ++ (c.1 ++ (fdsW ++ (fldW c.2.2.1 ++ [39]))))
def clsW (c : Cls) : List UInt8 := clsT c ++ [33, 10]
def hdT (nm : List UInt8) (m : Bool) : List UInt8 := nm ++ ((if m = true then 32 :: clsL else []) ++ 32 :: methL)
def hdW (nm : List UInt8) (m : Bool) : List UInt8 := hdT nm m ++ [33, 10]
/-- methods, where those of a class stand open (or none): to their end -/
def srcsW : Option (List UInt8 × Bool) → List Src → List UInt8
  | none, [] => []
  | some _, [] => [32, 33, 10]
  | none, x :: l => hdW x.1 x.2.1 ++ (dblE x.2.2.1 ++ (33 :: 10 :: srcsW (some (x.1, x.2.1)) l))
  | some h, x :: l => (if h = (x.1, x.2.1) then [] else [32, 33, 10] ++ hdW x.1 x.2.1) ++ (dblE x.2.2.1 ++ (33 :: 10 :: srcsW (some (x.1, x.2.1)) l))
def clssW (l : List Cls) : List UInt8 := l.flatMap clsW
def unitW (cs : List Cls) (ss : List Src) : List UInt8 := clssW cs ++ srcsW none ss
def txtOk (u : List UInt8) : Bool := !u.isEmpty && !blankN (u.headD 0).toNat && !blankN (u.getLastD 0).toNat
def srcOk (x : Src) : Bool := arityL (mkB x.1) == 0 && txtOk x.2.2.1

/-! ### names -/
theorem nm_of {x : List UInt8} (h : arityL (mkB x) = 0) : x.length ≤ 64 ∧ partA x = true ∧ ∃ c r, x = c :: r ∧ letterN c.toNat = true := by
  unfold arityL at h
  split at h
  · cases h
  · next h1 =>
    have h2 : x.length ≤ 64 := by
      have : (mkB x).size = x.length := mkL_size x
      omega
    split at h
    · next h3 => exact ⟨h2, name_parts h3⟩
    · split at h
      · cases h
      · split at h
        · exfalso
          unfold keysL at h
          split at h
          · have : (spl (Lib.trimSuffix (sb (mkB x)) [58])).length ≠ 0 := fun e => by
              have e1 := List.eq_nil_of_length_eq_zero e
              revert e1
              cases Lib.trimSuffix (sb (mkB x)) [58] with
              | nil => intro e1; cases e1
              | cons c l =>
                intro e1
                rw [spl] at e1
                split at e1
                · cases e1
                · split at e1 <;> cases e1
            omega
          · cases h
        · cases h
theorem part_facts {c : UInt8} (h : partN c.toNat = true) : blankN c.toNat = false ∧ c ≠ 33 ∧ c ≠ 39 ∧ c ≠ 34 := by
  refine ⟨?_, fun e => (by subst e; cases h), fun e => (by subst e; cases h), fun e => (by subst e; cases h)⟩
  unfold partN letterN digitN at h
  unfold blankN
  simp only [Bool.or_eq_true, Bool.and_eq_true, decide_eq_true_eq] at h
  simp only [Bool.or_eq_false_iff, beq_eq_false_iff_ne]
  omega
theorem beg_letter {c : UInt8} {r : List UInt8} (h : letterN c.toNat = true) : Beg (c :: r) :=
  ⟨c, r, rfl, (part_facts (letter_part h)).1, (part_facts (letter_part h)).2.2.2⟩
theorem parts_all {x : List UInt8} (h : partA x = true) : ∀ c ∈ x, partN c.toNat = true := fun c hc => List.all_eq_true.1 h c hc
theorem namesOk_all {l : List (List UInt8)} (h : namesOk l = true) : ∀ x ∈ l, arityL (mkB x) = 0 := fun x hx => by
  have := List.all_eq_true.1 h x hx
  simpa using this
theorem dblE_no : ∀ {l : List UInt8}, (∀ c ∈ l, c ≠ 33) → dblE l = l
  | [], _ => rfl
  | c :: l, h => by
    rw [dblE, if_neg (h c (by simp)), dblE_no (fun d hd => h d (by simp [hd]))]
theorem dbl_no : ∀ {l : List UInt8}, (∀ c ∈ l, c ≠ 39) → dbl l = l
  | [], _ => rfl
  | c :: l, h => by
    rw [dbl, if_neg (h c (by simp)), dbl_no (fun d hd => h d (by simp [hd]))]
theorem fldW_in : ∀ {l : List (List UInt8)}, (∀ x ∈ l, arityL (mkB x) = 0) → ∀ c ∈ fldW l, partN c.toNat = true ∨ c = 32
  | [], _, c, hc => by cases hc
  | [x], h, c, hc => .inl (parts_all (nm_of (h x (by simp))).2.1 c hc)
  | x :: y :: l, h, c, hc => by
    rw [fldW] at hc
    rcases List.mem_append.1 hc with h1 | h1
    · exact .inl (parts_all (nm_of (h x (by simp))).2.1 c h1)
    · rcases List.mem_cons.1 h1 with h2 | h2
      · exact .inr h2
      · exact fldW_in (l := y :: l) (fun z hz => h z (by simp [List.mem_cons.1 hz])) c h2
theorem fldW_len : ∀ (l : List (List UInt8)) (n : Nat), (∀ x ∈ l, x.length ≤ n) → (fldW l).length ≤ l.length * (n + 1)
  | [], _, _ => Nat.zero_le _
  | [x], n, h => by
    have := h x (by simp)
    simp only [fldW, List.length_cons, List.length_nil]; omega
  | x :: y :: l, n, h => by
    have h1 := h x (by simp)
    have h2 := fldW_len (y :: l) n (fun z hz => h z (by simp [List.mem_cons.1 hz]))
    rw [fldW, List.length_append, List.length_cons]
    simp only [List.length_cons, Nat.add_mul] at h2 ⊢
    omega
theorem words_go (l : List UInt8) : ∀ (x cur : List UInt8), (∀ c ∈ x, blankN c.toNat = false) → wordsA cur (x ++ l) = wordsA (cur ++ x) l
  | [], cur, _ => by simp
  | c :: x, cur, h => by
    rw [List.cons_append, wordsA, if_neg (by rw [h c (by simp)]; decide), words_go l x (cur ++ [c]) (fun d hd => h d (by simp [hd]))]
    simp
theorem words_fldW : ∀ {l : List (List UInt8)}, (∀ x ∈ l, arityL (mkB x) = 0) → wordsA [] (fldW l) = l
  | [], _ => rfl
  | [x], h => by
    obtain ⟨_, hp, c, r, hx, _⟩ := nm_of (h x (by simp))
    have := words_go [] x [] (fun c hc => (part_facts (parts_all hp c hc)).1)
    rw [List.append_nil, List.nil_append] at this
    rw [fldW, this, wordsA, if_neg (by rw [hx]; simp)]
  | x :: y :: l, h => by
    obtain ⟨_, hp, c, r, hx, _⟩ := nm_of (h x (by simp))
    have := words_go (32 :: fldW (y :: l)) x [] (fun c hc => (part_facts (parts_all hp c hc)).1)
    rw [List.nil_append] at this
    rw [fldW, this, wordsA, if_pos (by rfl), if_neg (by rw [hx]; simp), words_fldW (l := y :: l) (fun z hz => h z (by simp [List.mem_cons.1 hz]))]

/-! ### tokens -/
theorem tok_here {s : ByteArray} {p : Nat} {X : List UInt8} (hd : (sb s).drop p = X) (hb : Beg X) : tokR s p = tokAt s p := by
  obtain ⟨c, r, rfl, h1, h2⟩ := hb
  unfold tokR
  rw [hd, skipA, if_neg (by rw [h1]; decide), if_neg h2]
theorem tok_next {s : ByteArray} {p : Nat} {X : List UInt8} (hd : (sb s).drop p = 32 :: X) (hb : Beg X) : tokR s p = tokAt s (p + 1) ∧ (sb s).drop (p + 1) = X := by
  have h1 : (sb s).drop (p + 1) = X := by rw [← List.drop_drop, hd]; rfl
  refine ⟨?_, h1⟩
  have h2 := tok_here h1 hb
  rw [← h2]
  unfold tokR
  rw [hd, skipA, if_pos (by rfl), h1]
theorem tok_last {s : ByteArray} {p : Nat} (hd : (sb s).drop p = []) (hp : p ≤ s.size) : tokR s p = .inl (0, [], 0, p, p) := by
  have h1 := congrArg List.length hd
  rw [List.length_drop, sb_len, List.length_nil] at h1
  have h2 : p = s.size := by omega
  unfold tokR
  rw [hd]
  show tokAt s p = _
  unfold tokAt
  rw [if_pos h2]
theorem drop_on {s : ByteArray} {p : Nat} {X R : List UInt8} (hd : (sb s).drop p = X ++ R) : (sb s).drop (p + X.length) = R := by
  rw [← List.drop_drop, hd]; exact List.drop_left' rfl
theorem drop_hi {s : ByteArray} {p : Nat} {X R : List UInt8} (hd : (sb s).drop p = X ++ R) (hX : X ≠ []) : p + X.length ≤ s.size := by
  have h1 := congrArg List.length hd
  rw [List.length_drop, sb_len, List.length_append] at h1
  have := List.length_pos_iff.2 hX
  omega
theorem sep32 (l : List UInt8) : Sep (32 :: l) := fun c r e => by cases e; exact .inl rfl
theorem sepNil : Sep [] := fun c r e => by cases e
abbrev subN : List UInt8 := [115, 117, 98, 99, 108, 97, 115, 115]
abbrev fldN : List UInt8 := [102, 105, 101, 108, 100, 115]
theorem cls_toks {s : ByteArray} {sp nm f : List UInt8} (hs : sb s = sp ++ 32 :: (subL ++ 32 :: ((35 :: nm) ++ 32 :: (fldL ++ 32 :: quoL f)))) (h1 : arityL (mkB sp) = 0) (h2 : arityL (mkB nm) = 0) (hf : f.length ≤ 4096) :
    ∃ q0 q1 q2 q3 q4 q5, allW s 0 = .inl [(1, sp, 0, q0), (2, subL, 0, q1), (5, nm, 0, q2), (2, fldL, 0, q3), (4, f, 0, q4), (0, [], 0, q5)] := by
  obtain ⟨a1, a2, c, r, a3, a4⟩ := nm_of h1
  obtain ⟨b1, b2, c', r', b3, b4⟩ := nm_of h2
  have d0 : (sb s).drop 0 = sp ++ 32 :: (subL ++ 32 :: ((35 :: nm) ++ 32 :: (fldL ++ 32 :: quoL f))) := hs
  have t0 : tokR s 0 = _ := (tok_here d0 (by rw [a3]; exact beg_letter a4)).trans (at_name d0 (sep32 _) a1 a2 a3 a4)
  have g0 := drop_hi d0 (by rw [a3]; simp)
  have d1 := drop_on d0
  obtain ⟨t1, d1'⟩ := tok_next d1 (by exact beg_letter (by decide))
  have d1'' : (sb s).drop (0 + sp.length + 1) = (subN ++ [58]) ++ 32 :: ((35 :: nm) ++ 32 :: (fldL ++ 32 :: quoL f)) := d1'
  have t1' := t1.trans (at_key d1'' (sep32 _) (by decide) (by decide) (c := 115) rfl (by decide))
  have g1 := drop_hi d1'' (by simp)
  have d2 := drop_on d1''
  obtain ⟨t2, d2'⟩ := tok_next d2 ⟨35, _, rfl, rfl, by decide⟩
  have t2' := t2.trans (at_sym d2' (sep32 _) (by have := drop_hi d2' (by simp); omega) b1 (by rw [h2]; decide))
  have g2 := drop_hi d2' (by simp)
  have d3 := drop_on d2'
  obtain ⟨t3, d3'⟩ := tok_next d3 (by exact beg_letter (by decide))
  have d3'' : (sb s).drop (0 + sp.length + 1 + (subN ++ [58]).length + 1 + (35 :: nm).length + 1) = (fldN ++ [58]) ++ 32 :: quoL f := d3'
  have t3' := t3.trans (at_key d3'' (sep32 _) (by decide) (by decide) (c := 102) rfl (by decide))
  have g3 := drop_hi d3'' (by simp)
  have d4 := drop_on d3''
  obtain ⟨t4, d4'⟩ := tok_next d4 ⟨39, _, rfl, rfl, by decide⟩
  have d4'' := d4'.trans (List.append_nil _).symm
  have t4' := t4.trans (at_text d4'' sepNil hf)
  have g4 := drop_hi d4'' (by simp [quoL])
  have d5 := drop_on d4''
  have t5 := tok_last d5 g4
  exact ⟨_, _, _, _, _, _, allW_cons (Nat.zero_le _) t0 (by decide) (allW_cons g0 t1' (by decide) (allW_cons g1 t2' (by decide) (allW_cons g2 t3' (by decide) (allW_cons g3 t4' (by decide) (allW_end t5)))))⟩
theorem hd_toks {s : ByteArray} {nm : List UInt8} {m : Bool} (hs : sb s = hdT nm m) (h1 : arityL (mkB nm) = 0) :
    ∃ l, allW s 0 = .inl l ∧ headL l = some (nm, m) ∧ ∀ a, clsR l a = none := by
  obtain ⟨a1, a2, c, r, a3, a4⟩ := nm_of h1
  cases m with
  | false =>
    have d0 : (sb s).drop 0 = nm ++ 32 :: methL := hs
    have t0 : tokR s 0 = _ := (tok_here d0 (by rw [a3]; exact beg_letter a4)).trans (at_name d0 (sep32 _) a1 a2 a3 a4)
    have g0 := drop_hi d0 (by rw [a3]; simp)
    have d1 := drop_on d0
    obtain ⟨t1, d1'⟩ := tok_next d1 (by exact beg_letter (by decide))
    have d1'' := d1'.trans (List.append_nil _).symm
    have t1' := t1.trans (at_name d1'' sepNil (by decide) (by decide) (c := 109) rfl (by decide))
    have g1 := drop_hi d1'' (by simp)
    have t2 := tok_last (drop_on d1'') g1
    exact ⟨_, allW_cons (Nat.zero_le _) t0 (by decide) (allW_cons g0 t1' (by decide) (allW_end t2)), rfl, fun a => rfl⟩
  | true =>
    have d0 : (sb s).drop 0 = nm ++ 32 :: (clsL ++ 32 :: methL) := hs
    have t0 : tokR s 0 = _ := (tok_here d0 (by rw [a3]; exact beg_letter a4)).trans (at_name d0 (sep32 _) a1 a2 a3 a4)
    have g0 := drop_hi d0 (by rw [a3]; simp)
    have d1 := drop_on d0
    obtain ⟨t1, d1'⟩ := tok_next d1 (by exact beg_letter (by decide))
    have t1' := t1.trans (at_name d1' (sep32 _) (by decide) (by decide) (c := 99) rfl (by decide))
    have g1 := drop_hi d1' (by simp)
    have d2 := drop_on d1'
    obtain ⟨t2, d2'⟩ := tok_next d2 (by exact beg_letter (by decide))
    have d2'' := d2'.trans (List.append_nil _).symm
    have t2' := t2.trans (at_name d2'' sepNil (by decide) (by decide) (c := 109) rfl (by decide))
    have g2 := drop_hi d2'' (by simp)
    have t3 := tok_last (drop_on d2'') g2
    exact ⟨_, allW_cons (Nat.zero_le _) t0 (by decide) (allW_cons g0 t1' (by decide) (allW_cons g1 t2' (by decide) (allW_end t3))), rfl, fun a => rfl⟩

/-! ### chunks -/
theorem chB_dblE : ∀ (u r : List UInt8) (q : Nat) (acc : List UInt8), r.head? ≠ some 33 → chB q acc (dblE u ++ 33 :: r) = (acc ++ u, q + (dblE u).length, true)
  | [], r, q, acc, h => by
    cases r with
    | nil => simp [dblE, chB]
    | cons d l =>
      have hd : d ≠ 33 := fun e => h (by rw [e]; rfl)
      show chB q acc (33 :: d :: l) = _
      rw [chB, if_pos rfl, if_neg hd]
      simp [dblE]
  | c :: u, r, q, acc, h => by
    rw [dblE]
    split
    · next hc =>
      subst hc
      show chB q acc (33 :: 33 :: (dblE u ++ 33 :: r)) = _
      rw [chB, if_pos rfl, if_pos rfl, chB_dblE u r _ _ h]
      simp
      omega
    · next hc =>
      have ih := chB_dblE u r (q + 1) (acc ++ [c]) h
      show chB q acc (c :: (dblE u ++ 33 :: r)) = _
      revert ih
      cases hx : dblE u ++ 33 :: r with
      | nil => simp at hx
      | cons d l =>
        intro ih
        rw [chB, if_neg hc, ih]
        simp
        omega
theorem run_blanks {s : ByteArray} {p : Nat} {bl X : List UInt8} (hd : (sb s).drop p = bl ++ X) (hb : ∀ c ∈ bl, blankN c.toNat = true) (hX : ∀ c r, X = c :: r → blankN c.toNat = false) : runE blankN s p = p + bl.length := by
  unfold runE
  rw [hd, List.takeWhile_append_of_pos hb]
  have : X.takeWhile (fun c => blankN c.toNat) = [] := by
    cases X with
    | nil => rfl
    | cons c r => rw [List.takeWhile_cons, if_neg (by rw [hX c r rfl]; decide)]
  rw [this, List.append_nil]
theorem chunk_at {s : ByteArray} {p : Nat} {bl u r : List UInt8} (hd : (sb s).drop p = bl ++ (dblE u ++ 33 :: r)) (hb : ∀ c ∈ bl, blankN c.toNat = true) (hu : ∀ c l, u = c :: l → blankN c.toNat = false) (ht : trimR u = u) (hr : r.head? ≠ some 33) :
    ∃ a b, chunkR s p = (u, a, b, true) ∧ (sb s).drop b = r ∧ b ≤ s.size := by
  have hX : ∀ c l, dblE u ++ 33 :: r = c :: l → blankN c.toNat = false := by
    intro c l e
    cases u with
    | nil => cases e; rfl
    | cons d m =>
      have h1 := hu d m rfl
      rw [dblE] at e
      split at e
      · next hc => cases e; rfl
      · cases e; exact h1
  have h1 := run_blanks hd hb hX
  have h2 := drop_on hd
  have h3 := congrArg List.length hd
  rw [List.length_drop, sb_len, List.length_append, List.length_append, List.length_cons] at h3
  refine ⟨p + bl.length, p + bl.length + (dblE u).length + 1, ?_, ?_, by omega⟩
  · unfold chunkR
    rw [h1, h2, chB_dblE u r _ _ hr]
    simp only [List.nil_append, ht]
  · have h4 := drop_on (R := r) (X := dblE u ++ [33]) (h2.trans (by simp))
    rw [List.length_append, List.length_singleton, ← Nat.add_assoc] at h4
    exact h4
theorem trim_last {l : List UInt8} {c : UInt8} (h : blankN c.toNat = false) : trimR (l ++ [c]) = l ++ [c] := trimR_stop h
theorem txt_trim {u : List UInt8} (h : txtOk u = true) : u ≠ [] ∧ (∀ c l, u = c :: l → blankN c.toNat = false) ∧ trimR u = u := by
  unfold txtOk at h
  simp only [Bool.and_eq_true, Bool.not_eq_true'] at h
  obtain ⟨⟨h1, h2⟩, h3⟩ := h
  refine ⟨fun e => (by rw [e] at h1; cases h1), fun c l e => (by rw [e] at h2; exact h2), ?_⟩
  rcases List.eq_nil_or_concat u with e | ⟨l, c, e⟩
  · rw [e]; rfl
  · rw [e] at h3 ⊢
    rw [List.concat_eq_append] at h3 ⊢
    rw [List.getLastD_concat] at h3
    exact trim_last h3

/-! ### what is read back -/
theorem hdT_no33 {nm : List UInt8} {m : Bool} (h : arityL (mkB nm) = 0) : ∀ c ∈ hdT nm m, c ≠ 33 := by
  obtain ⟨_, hp, _⟩ := nm_of h
  intro c hc
  unfold hdT at hc
  rcases List.mem_append.1 hc with h1 | h1
  · exact (part_facts (parts_all hp c h1)).2.1
  · intro e
    subst e
    revert h1
    cases m <;> decide
theorem hdT_last (nm : List UInt8) (m : Bool) : ∃ l, hdT nm m = l ++ [115] := by
  cases m
  · exact ⟨nm ++ [32, 109, 101, 116, 104, 111, 100], by simp [hdT]⟩
  · exact ⟨nm ++ [32, 99, 108, 97, 115, 115, 32, 109, 101, 116, 104, 111, 100], by simp [hdT]⟩
theorem srcs_head (m : Option (List UInt8 × Bool)) (l : List Src) : (10 :: srcsW m l).head? ≠ some 33 := by simp
theorem srcs_read {s : ByteArray} : ∀ (ss : List Src) (m : Option (List UInt8 × Bool)) (p : Nat) (bl : List UInt8), (∀ c ∈ bl, blankN c.toNat = true) → (sb s).drop p = bl ++ srcsW m ss → p ≤ s.size → (∀ x ∈ ss, srcOk x = true) →
    ∃ xs, readU s m p = .inl ([], xs) ∧ xs.map nS = ss.map nS := by
  intro ss
  induction ss with
  | nil =>
    have hnone : ∀ (p : Nat) (bl : List UInt8), (∀ c ∈ bl, blankN c.toNat = true) → (sb s).drop p = bl → p ≤ s.size → readU s none p = .inl ([], []) := by
      intro p bl hb hd hp
      have h1 := run_blanks (X := []) (by rw [List.append_nil]; exact hd) hb (fun c r e => by cases e)
      have h2 : (sb s).drop (p + bl.length) = [] := by rw [← List.drop_drop, hd]; exact List.drop_length
      have h3 : chunkR s p = ([], p + bl.length, p + bl.length + 1, false) := by
        unfold chunkR
        rw [h1, h2]
        rfl
      rw [readU_in hp h3, if_pos rfl, if_pos rfl]
      rfl
    intro m p bl hb hd hp _
    cases m with
    | none => exact ⟨[], hnone p bl hb (by rw [hd]; exact List.append_nil _) hp, rfl⟩
    | some h =>
      have hd1 : (sb s).drop p = (bl ++ [32]) ++ (dblE [] ++ 33 :: [10]) := by rw [hd]; simp [srcsW, dblE]
      obtain ⟨a, b, h1, h2, h3⟩ := chunk_at hd1 (fun c hc => by rcases List.mem_append.1 hc with h | h; exact hb c h; obtain rfl := List.mem_singleton.1 h; rfl) (fun c l e => by cases e) rfl (by simp)
      refine ⟨[], ?_, rfl⟩
      rw [readU_in hp h1, if_neg (by decide), if_pos rfl]
      exact hnone b [10] (by simp [blankN]) h2 h3
  | cons x l ih =>
    have hbody : ∀ (p : Nat) (bl : List UInt8), (∀ c ∈ bl, blankN c.toNat = true) → (sb s).drop p = bl ++ (dblE x.2.2.1 ++ (33 :: 10 :: srcsW (some (x.1, x.2.1)) l)) → p ≤ s.size → (∀ y ∈ x :: l, srcOk y = true) →
        ∃ xs, readU s (some (x.1, x.2.1)) p = .inl ([], xs) ∧ xs.map nS = (x :: l).map nS := by
      intro p bl hb hd hp ho
      have hx := ho x (by simp)
      unfold srcOk at hx
      rw [Bool.and_eq_true] at hx
      obtain ⟨e1, e2, e3⟩ := txt_trim hx.2
      obtain ⟨a, b, h1, h2, h3⟩ := chunk_at hd hb e2 e3 (by simp)
      obtain ⟨xs, g1, g2⟩ := ih (some (x.1, x.2.1)) b [10] (by simp [blankN]) h2 h3 (fun y hy => ho y (by simp [hy]))
      refine ⟨(x.1, x.2.1, x.2.2.1, (a : Int)) :: xs, ?_, ?_⟩
      · rw [readU_in hp h1, if_neg (by decide), if_neg e1]
        dsimp only
        rw [g1]
        rfl
      · rw [List.map_cons, List.map_cons, g2]
        rfl
    have hnone : ∀ (p : Nat) (bl : List UInt8), (∀ c ∈ bl, blankN c.toNat = true) → (sb s).drop p = bl ++ (hdW x.1 x.2.1 ++ (dblE x.2.2.1 ++ (33 :: 10 :: srcsW (some (x.1, x.2.1)) l))) → p ≤ s.size → (∀ y ∈ x :: l, srcOk y = true) →
        ∃ xs, readU s none p = .inl ([], xs) ∧ xs.map nS = (x :: l).map nS := by
      intro p bl hb hd hp ho
      have hx := ho x (by simp)
      unfold srcOk at hx
      rw [Bool.and_eq_true, beq_iff_eq] at hx
      obtain ⟨_, _, c, r, hc, hlc⟩ := nm_of hx.1
      have hd1 : (sb s).drop p = bl ++ (dblE (hdT x.1 x.2.1) ++ 33 :: (10 :: (dblE x.2.2.1 ++ (33 :: 10 :: srcsW (some (x.1, x.2.1)) l)))) := by
        rw [hd, dblE_no (hdT_no33 hx.1)]
        simp [hdW]
      obtain ⟨k, hk⟩ := hdT_last x.1 x.2.1
      obtain ⟨a, b, h1, h2, h3⟩ := chunk_at hd1 hb (fun d e he => by unfold hdT at he; rw [hc] at he; injection he with he _; subst he; exact (part_facts (letter_part hlc)).1) (by rw [hk]; exact trim_last rfl) (by simp)
      obtain ⟨toks, t1, t2, t3⟩ := hd_toks (s := mkB (hdT x.1 x.2.1)) rfl hx.1
      obtain ⟨xs, g1, g2⟩ := hbody b [10] (by simp [blankN]) h2 h3 ho
      refine ⟨xs, ?_, g2⟩
      rw [readU_in hp h1, if_neg (by decide), if_neg (by rw [hk]; simp)]
      dsimp only
      rw [t1]
      dsimp only
      rw [t3]
      dsimp only
      rw [t2]
      exact g1
    intro m p bl hb hd hp ho
    cases m with
    | none => exact hnone p bl hb hd hp ho
    | some h =>
      rw [srcsW] at hd
      by_cases he : h = (x.1, x.2.1)
      · rw [if_pos he, List.nil_append] at hd
        rw [he]
        exact hbody p bl hb hd hp ho
      · rw [if_neg he] at hd
        have hd1 : (sb s).drop p = (bl ++ [32]) ++ (dblE [] ++ 33 :: (10 :: (hdW x.1 x.2.1 ++ (dblE x.2.2.1 ++ (33 :: 10 :: srcsW (some (x.1, x.2.1)) l))))) := by rw [hd]; simp [dblE]
        obtain ⟨a, b, h1, h2, h3⟩ := chunk_at hd1 (fun c hc => by rcases List.mem_append.1 hc with h | h; exact hb c h; obtain rfl := List.mem_singleton.1 h; rfl) (fun c l e => by cases e) rfl (by simp)
        obtain ⟨xs, g1, g2⟩ := hnone b [10] (by simp [blankN]) h2 h3 ho
        refine ⟨xs, ?_, g2⟩
        rw [readU_in hp h1, if_neg (by decide), if_pos rfl]
        exact g1
def clsOkW (c : Cls) : Bool := isClassR c.1 c.2.1 c.2.2.1 && decide ((fldW c.2.2.1).length ≤ 4096)
theorem super_ok {c : Cls} (h : clsOkW c = true) : arityL (mkB (superW c.2.1)) = 0 ∧ supN (superW c.2.1) = c.2.1 ∧ arityL (mkB c.1) = 0 ∧ (∀ x ∈ c.2.2.1, arityL (mkB x) = 0) ∧ (fldW c.2.2.1).length ≤ 4096 := by
  unfold clsOkW isClassR at h
  simp only [Bool.and_eq_true, beq_iff_eq, Bool.or_eq_true, bne_iff_ne, ne_eq, decide_eq_true_eq] at h
  obtain ⟨⟨⟨h1, h2⟩, h3⟩, h4⟩ := h
  refine ⟨?_, ?_, h1, namesOk_all h3, h4⟩
  · unfold superW
    split
    · decide +kernel
    · next he => rcases h2 with h2 | h2; exact absurd h2 he; exact h2.1
  · unfold superW supN
    split
    · next he => rw [if_pos rfl, he]
    · next he => rcases h2 with h2 | h2; exact absurd h2 he; rw [if_neg h2.2]
theorem clsT_toks {c : Cls} (h : clsOkW c = true) : clsT c = superW c.2.1 ++ 32 :: (subL ++ 32 :: ((35 :: c.1) ++ 32 :: (fldL ++ 32 :: quoL (fldW c.2.2.1)))) := by
  obtain ⟨_, _, _, h4, _⟩ := super_ok h
  have : dbl (fldW c.2.2.1) = fldW c.2.2.1 := dbl_no (fun d hd => by
    rcases fldW_in h4 d hd with h | h
    · exact (part_facts h).2.2.1
    · rw [h]; decide)
  unfold clsT quoL
  rw [this]
  simp
theorem clsT_no33 {c : Cls} (h : clsOkW c = true) : ∀ d ∈ clsT c, d ≠ 33 := by
  obtain ⟨h1, _, h3, h4, _⟩ := super_ok h
  intro d hd
  unfold clsT at hd
  rcases List.mem_append.1 hd with g | hd
  · exact (part_facts (parts_all (nm_of h1).2.1 d g)).2.1
  rcases List.mem_append.1 hd with g | hd
  · intro e; subst e; revert g; decide
  rcases List.mem_append.1 hd with g | hd
  · exact (part_facts (parts_all (nm_of h3).2.1 d g)).2.1
  rcases List.mem_append.1 hd with g | hd
  · intro e; subst e; revert g; decide
  rcases List.mem_append.1 hd with g | hd
  · rcases fldW_in h4 d g with h | h
    · exact (part_facts h).2.1
    · rw [h]; decide
  · intro e; subst e; revert hd; decide
theorem cls_read {s : ByteArray} {c : Cls} {p : Nat} {bl r : List UInt8} (h : clsOkW c = true) (hb : ∀ c ∈ bl, blankN c.toNat = true) (hd : (sb s).drop p = bl ++ (clsW c ++ r)) (hp : p ≤ s.size) :
    ∃ a b, readU s none p = preU [(c.1, c.2.1, c.2.2.1, a)] [] (readU s none b) ∧ (sb s).drop b = 10 :: r ∧ b ≤ s.size := by
  obtain ⟨h1, h2, h3, h4, h5⟩ := super_ok h
  obtain ⟨_, _, d, r', hc, hlc⟩ := nm_of h1
  have hd1 : (sb s).drop p = bl ++ (dblE (clsT c) ++ 33 :: (10 :: r)) := by
    rw [hd, dblE_no (clsT_no33 h)]
    simp [clsW]
  have hk : clsT c = (superW c.2.1 ++ (subW ++ (c.1 ++ (fdsW ++ fldW c.2.2.1)))) ++ [39] := by simp [clsT]
  obtain ⟨a, b, e1, e2, e3⟩ := chunk_at hd1 hb (fun d' e he => by unfold clsT at he; rw [hc] at he; injection he with he _; subst he; exact (part_facts (letter_part hlc)).1) (by rw [hk]; exact trim_last rfl) (by simp)
  obtain ⟨q0, q1, q2, q3, q4, q5, ht⟩ := cls_toks (s := mkB (clsT c)) (clsT_toks h) h1 h3 h5
  refine ⟨(a : Int), b, ?_, e2, e3⟩
  have hcl : clsR [(1, superW c.2.1, 0, q0), (2, subL, 0, q1), (5, c.1, 0, q2), (2, fldL, 0, q3), (4, fldW c.2.2.1, 0, q4), (0, [], 0, q5)] (a : Int) = some (c.1, c.2.1, c.2.2.1, (a : Int)) := by
    unfold clsR
    rw [show classL [(1, superW c.2.1, 0, q0), (2, subL, 0, q1), (5, c.1, 0, q2), (2, fldL, 0, q3), (4, fldW c.2.2.1, 0, q4), (0, [], 0, q5)] = some (c.1, superW c.2.1, fldW c.2.2.1) by rfl]
    dsimp only
    rw [words_fldW h4, h2, if_pos]
    unfold clsOk
    rw [h3, words_fldW h4]
    simp only [namesOk, beq_self_eq_true, Bool.true_and, List.all_eq_true, beq_iff_eq]
    exact h4
  rw [readU_in hp e1, if_neg (by decide), if_neg (by rw [hk]; simp)]
  dsimp only
  rw [ht]
  dsimp only
  rw [hcl]
def nC (c : Cls) : List UInt8 × List UInt8 × List (List UInt8) := (c.1, c.2.1, c.2.2.1)
theorem unit_read {s : ByteArray} : ∀ (cs : List Cls) (ss : List Src) (p : Nat) (bl : List UInt8), (∀ c ∈ bl, blankN c.toNat = true) → (sb s).drop p = bl ++ unitW cs ss → p ≤ s.size → (∀ c ∈ cs, clsOkW c = true) → (∀ x ∈ ss, srcOk x = true) →
    ∃ ds xs, readU s none p = .inl (ds, xs) ∧ ds.map nC = cs.map nC ∧ xs.map nS = ss.map nS := by
  intro cs
  induction cs with
  | nil =>
    intro ss p bl hb hd hp _ ho
    obtain ⟨xs, h1, h2⟩ := srcs_read ss none p bl hb hd hp ho
    exact ⟨[], xs, h1, rfl, h2⟩
  | cons c cs ih =>
    intro ss p bl hb hd hp hc ho
    have hd1 : (sb s).drop p = bl ++ (clsW c ++ unitW cs ss) := by rw [hd]; simp [unitW, clssW]
    obtain ⟨a, b, h1, h2, h3⟩ := cls_read (hc c (by simp)) hb hd1 hp
    obtain ⟨ds, xs, g1, g2, g3⟩ := ih ss b [10] (by simp [blankN]) h2 h3 (fun d hd => hc d (by simp [hd])) ho
    refine ⟨(c.1, c.2.1, c.2.2.1, a) :: ds, xs, ?_, ?_, g3⟩
    · rw [h1, g1]; rfl
    · rw [List.map_cons, List.map_cons, g2]; rfl
/-- what is written is read back -/
theorem unit_back {cs : List Cls} {ss : List Src} (hz : (unitW cs ss).length ≤ 65536) (hc : ∀ c ∈ cs, clsOkW c = true) (ho : ∀ x ∈ ss, srcOk x = true) :
    ∃ ds xs, readT (mkB (unitW cs ss)) = .inl (ds, xs) ∧ ds.map nC = cs.map nC ∧ xs.map nS = ss.map nS := by
  obtain ⟨ds, xs, h1, h2, h3⟩ := unit_read (s := mkB (unitW cs ss)) cs ss 0 [] (fun c hc => by cases hc) rfl (Nat.zero_le _) hc ho
  refine ⟨ds, xs, ?_, h2, h3⟩
  unfold readT
  rw [if_neg (by have : (mkB (unitW cs ss)).size = (unitW cs ss).length := mkL_size _; omega)]
  exact h1
end Go.Proofs.YtmdkneollidkfaaGreatDoor.Fl
