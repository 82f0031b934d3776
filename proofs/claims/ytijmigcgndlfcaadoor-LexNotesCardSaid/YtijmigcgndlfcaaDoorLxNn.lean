/-
  The lexer: tokens that are written with notes ahead of each.
-/
import Derived.Test.YtijmigcgndlfcaaDoorLxNt
namespace Go.Proofs.YtijmigcgndlfcaaDoor.Fl
open Go.RowKit

/-- each byte but a quote as a note, with a line's end and a blank behind -/
def noteL : List UInt8 → List UInt8
  | [] => []
  | c :: l => if c = 34 then noteL l else 34 :: c :: 34 :: 10 :: 32 :: noteL l
theorem noteL_len : ∀ l : List UInt8, (noteL l).length ≤ 5 * l.length
  | [] => Nat.le_refl _
  | c :: l => by
    have := noteL_len l
    rw [noteL]
    split <;> simp only [List.length_cons] <;> omega
/-- the text of tokens, each with its notes -/
def blkT : List (List UInt8 × Tok) → List UInt8
  | [] => []
  | (ns, x) :: l => noteL ns ++ 32 :: (writL x.1 x.2.1 x.2.2.1 ++ blkT l)
theorem skip_note (m : Option Nat) : ∀ (ns X : List UInt8) (p : Nat), skipA none p (noteL ns ++ X) = skipA none (p + (noteL ns).length) X
  | [], X, p => rfl
  | c :: ns, X, p => by
    rw [noteL]
    split
    · exact skip_note m ns X p
    · next hc =>
      have h34 : blankN (34 : UInt8).toNat = false := rfl
      have h10 : blankN (10 : UInt8).toNat = true := rfl
      have h32 : blankN (32 : UInt8).toNat = true := rfl
      have h := skip_note m ns X (p + 1 + 1 + 1 + 1 + 1)
      simp only [List.cons_append, skipA, h34, h10, h32, if_neg hc, Bool.false_eq_true, if_false, if_true, List.length_cons]
      rw [h]
      congr 1
      omega
def EndK : List (List UInt8 × Tok) → Prop
  | [] => False
  | (_, x) :: l => TokV x.1 x.2.1 x.2.2.1 ∧ (x.1 = 0 ↔ l = []) ∧ (l ≠ [] → EndK l)
def str3 (x : Tok) : Nat × List UInt8 × Int := (x.1, x.2.1, x.2.2.1)
theorem blk_sep (xs : List (List UInt8 × Tok)) : Sep (blkT xs ++ [32]) := by
  intro c r h
  cases xs with
  | nil => injection h with h _; exact .inl h.symm
  | cons y l =>
    obtain ⟨ns, x⟩ := y
    rw [blkT, List.append_assoc] at h
    cases hn : noteL ns with
    | nil => rw [hn] at h; injection h with h _; exact .inl h.symm
    | cons d t =>
      rw [hn] at h
      injection h with h _
      have : ∀ (ns : List UInt8) (d : UInt8) (t : List UInt8), noteL ns = d :: t → d = 34 := by
        intro ns
        induction ns with
        | nil => intro d t e; cases e
        | cons c ns ih =>
          intro d t e
          rw [noteL] at e
          split at e
          · exact ih d t e
          · injection e with e _; exact e.symm
      exact .inr (h.symm.trans (this _ _ _ hn))
theorem TokV.zero {wd : List UInt8} {n : Int} (h : TokV 0 wd n) : wd = [] ∧ n = 0 := by
  rcases h with ⟨h, _⟩ | ⟨h, _⟩ | ⟨h, _⟩ | ⟨h, _⟩ | ⟨h, _⟩ | ⟨h, _⟩ | ⟨_, h1, h2⟩
  all_goals first
    | exact ⟨h2, h1⟩
    | cases h
theorem blk_all : ∀ (xs : List (List UInt8 × Tok)) (s : ByteArray) (p : Nat), (sb s).drop p = blkT xs ++ [32] → p ≤ s.size → EndK xs → ∃ l', allW s p = .inl l' ∧ l'.map str3 = xs.map fun y => str3 y.2
  | [], s, p, _, _, he => he.elim
  | (ns, x) :: l, s, p, h, hp, he => by
    obtain ⟨hv, hz, hrest⟩ := he
    obtain ⟨k, wd, n, at_⟩ := x
    change TokV k wd n at hv
    change k = 0 ↔ l = [] at hz
    have hlen := congrArg List.length h
    rw [List.length_drop, sb_len] at hlen
    by_cases hk : k = 0
    · subst hk
      obtain ⟨rfl, rfl⟩ := hv.zero
      have hl := hz.1 rfl
      subst hl
      have h2 : (sb s).drop p = noteL ns ++ [32, 32] := by rw [h, blkT]; simp [writL, blkT]
      have hsk : skipA none p ((sb s).drop p) = .inl s.size := by
        rw [h2, skip_note none]
        have h32 : blankN (32 : UInt8).toNat = true := rfl
        simp only [skipA, h32, if_true]
        congr 1
        have := congrArg List.length h2
        simp only [List.length_drop, sb_len, List.length_append, List.length_cons, List.length_nil] at this
        omega
      have ht : tokR s p = .inl (0, [], 0, s.size, s.size) := by
        unfold tokR
        rw [hsk]
        show tokAt s s.size = _
        unfold tokAt
        rw [if_pos rfl]
      exact ⟨_, allW_end ht, rfl⟩
    · have hl : l ≠ [] := fun e => hk (hz.2 e)
      have h2 : (sb s).drop p = noteL ns ++ 32 :: (writL k wd n ++ (blkT l ++ [32])) := by rw [h, blkT, List.append_assoc, List.cons_append, List.append_assoc]
      have hl2 := congrArg List.length h2
      simp only [List.length_drop, sb_len, List.length_append, List.length_cons] at hl2
      obtain ⟨q, hq⟩ : ∃ q, p + (noteL ns).length + 1 = q := ⟨_, rfl⟩
      have hd : (sb s).drop q = writL k wd n ++ (blkT l ++ [32]) := by
        rw [← hq, ← List.drop_drop, drop_more h2]; rfl
      have hqs : q ≤ s.size := by omega
      obtain ⟨hta, c, r, hc, hb, h34⟩ := tok_read hv hk hd (blk_sep l) hqs
      have hsk : skipA none p ((sb s).drop p) = .inl q := by
        rw [h2, skip_note none, hc]
        have h32 : blankN (32 : UInt8).toNat = true := rfl
        simp only [List.cons_append, skipA, h32, if_true, hb, Bool.false_eq_true, if_false, if_neg h34, hq]
      have ht : tokR s p = .inl (k, wd, n, q, q + (writL k wd n).length) := by
        unfold tokR
        rw [hsk]
        exact hta
      have hin := tokR_in hp ht
      obtain ⟨l', e1, e2⟩ := blk_all l s (q + (writL k wd n).length) (drop_more hd) hin (hrest hl)
      have hgo := (allW_go hp hin ht hk []).2
      rw [preW_nil, e1] at hgo
      refine ⟨(k, wd, n, q) :: l', hgo, ?_⟩
      rw [List.map_cons, List.map_cons, e2]
      rfl
/-- the tokens, each with its notes -/
def pairsT (f : Nat → List UInt8) : List Tok → Nat → List (List UInt8 × Tok)
  | [], _ => []
  | x :: l, i => (f i, x) :: pairsT f l (i + 1)
theorem pairs_end (f : Nat → List UInt8) {s : ByteArray} : ∀ (l : List Tok) (p i : Nat), PlA s p l → l ≠ [] → EndK (pairsT f l i)
  | [], _, _, _, h => absurd rfl h
  | x :: l, p, i, h, _ => by
    obtain ⟨hv, _, _, hz, _, hr⟩ := h
    refine ⟨hv, hz.trans ?_, fun hne => pairs_end f l _ _ hr (fun e => hne (by rw [e]; rfl))⟩
    cases l <;> simp [pairsT]
theorem pairs_map (f : Nat → List UInt8) : ∀ (l : List Tok) (i : Nat), ((pairsT f l i).map fun y => str3 y.2) = l.map str3
  | [], _ => rfl
  | x :: l, i => by rw [pairsT, List.map_cons, List.map_cons, pairs_map f l (i + 1)]
end Go.Proofs.YtijmigcgndlfcaaDoor.Fl
