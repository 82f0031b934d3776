/-
  Two files, one behind the other.
-/
import Derived.Test.YtponopcnndkalaaGreatDoorClB
namespace Go.Proofs.YtponopcnndkalaaGreatDoor.Fl
open Go.RowKit Go.Shelf

theorem endL_app (n : Nat) : ∀ (L : List UInt8) (p q : Nat) (M : List UInt8), L.length ≤ n → endL p L = some q → (L.getLast? = some 33 → M.head? ≠ some 33) → endL p (L ++ M) = some q := by
  induction n with
  | zero =>
    intro L p q M hn he _
    have : L = [] := List.eq_nil_of_length_eq_zero (by omega)
    subst this
    cases he
  | succ n ih =>
    intro L p q M hn he hM
    match L, hn with
    | [], _ => cases he
    | [c], _ =>
      rw [endL] at he
      split at he
      · next hc =>
        subst hc
        have h1 := hM rfl
        cases M with
        | nil => exact he
        | cons m M =>
          have hm : m ≠ 33 := fun e => h1 (by rw [e]; rfl)
          show endL p (33 :: m :: M) = _
          rw [endL, if_pos rfl, if_neg hm]
          exact he
      · cases he
    | c :: d :: l, hn =>
      simp only [List.length_cons] at hn
      have hlast : ∀ (x : UInt8) (y : List UInt8), y ≠ [] → (x :: y).getLast? = y.getLast? := fun x y hy => by
        cases y with
        | nil => exact absurd rfl hy
        | cons z y => simp
      rw [endL] at he
      show endL p (c :: d :: (l ++ M)) = _
      rw [endL]
      by_cases hc : c = 33
      · rw [if_pos hc] at he ⊢
        by_cases hd : d = 33
        · rw [if_pos hd] at he ⊢
          have hl : l ≠ [] := fun e => by rw [e] at he; cases he
          exact ih l (p + 2) q M (by omega) he (fun h => hM (by rw [hlast c _ (by simp), hlast d l hl]; exact h))
        · rw [if_neg hd] at he ⊢; exact he
      · rw [if_neg hc] at he ⊢
        exact ih (d :: l) (p + 1) q M (by simp; omega) he (fun h => hM (by rw [hlast c _ (by simp)]; exact h))
theorem endL_noblank {p : Nat} {L : List UInt8} (h : L.dropWhile isBl = []) : endL p L = none := by
  rw [endL_blank, h]; rfl
theorem getLast_drop (l : List UInt8) (p : Nat) (h : p < l.length) : (l.drop p).getLast? = l.getLast? := by
  induction l generalizing p with
  | nil => simp at h
  | cons c l ih =>
    cases p with
    | zero => rfl
    | succ p =>
      rw [List.drop_succ_cons, ih p (by simpa using h)]
      cases l with
      | nil => simp at h
      | cons d l => simp
/-- a chunk that ends in the first file is the same in both -/
theorem chunk_first {a S : ByteArray} {M : List UInt8} (hS : sb S = sb a ++ M) (hM : (sb a).getLast? = some 33 → M.head? ≠ some 33) {p x y : Nat} {t : List UInt8} (hp : p ≤ a.size) (h : chunkR a p = (t, x, y, true)) : chunkR S p = (t, x, y, true) ∧ y ≤ a.size ∧ p < y := by
  cases he : endL 0 ((sb a).drop p) with
  | none =>
    obtain ⟨t', b', hc, _⟩ := chunk_none hp he
    rw [hc] at h
    simp at h
  | some k =>
    obtain ⟨h1, h2⟩ := chunk_some hp he
    rw [h2] at h
    have hSz : S.size = a.size + M.length := by rw [← sb_len, hS, List.length_append, sb_len]
    have hd : (sb S).drop p = (sb a).drop p ++ M := by rw [hS, List.drop_append_of_le_length (by rw [sb_len]; exact hp)]
    have hplt : p < (sb a).length := by rw [sb_len]; omega
    have he2 : endL 0 ((sb S).drop p) = some k := by rw [hd]; exact endL_app _ _ _ _ _ (Nat.le_refl _) he (fun h => hM (by rw [← getLast_drop _ _ hplt]; exact h))
    obtain ⟨_, h4⟩ := chunk_some (by omega : p ≤ S.size) he2
    have hr : runE blankN S p = runE blankN a p := by
      unfold runE
      rw [hd, List.takeWhile_append]
      have hne : ¬ (List.takeWhile (fun c : UInt8 => blankN c.toNat) ((sb a).drop p)).length = ((sb a).drop p).length := fun e => by
        have h5 : ((sb a).drop p).dropWhile isBl = [] := by
          rw [← drop_run]
          exact List.drop_of_length_le (by show _ ≤ (List.takeWhile (fun c : UInt8 => blankN c.toNat) ((sb a).drop p)).length; omega)
        rw [endL_noblank h5] at he
        cases he
      rw [if_neg hne]
    rw [h4, hr, hd, List.take_append_of_le_length (by rw [List.length_drop, sb_len]; omega)]
    simp only [Prod.mk.injEq, and_true] at h
    obtain ⟨h5, h6, h7⟩ := h
    exact ⟨by rw [h5, h6, h7], by omega, by omega⟩
theorem chunk_same {s : ByteArray} {p q : Nat} (h : runE blankN s p = runE blankN s q) : chunkR s p = chunkR s q := by unfold chunkR; rw [h]
def shU (N : Nat) : UnitR → UnitR
  | .inl (cs, ss) => .inl (cs.map (fun c => (c.1, c.2.1, c.2.2.1, c.2.2.2 + (N : Int))), ss.map (fun c => (c.1, c.2.1, c.2.2.1, c.2.2.2 + (N : Int))))
  | .inr (a, n) => .inr (a + (N : Int), n)
theorem shU_pre (N : Nat) (cs : List Cls) (ss : List Src) (r : UnitR) : shU N (preU cs ss r) = preU (cs.map (fun c => (c.1, c.2.1, c.2.2.1, c.2.2.2 + (N : Int)))) (ss.map (fun c => (c.1, c.2.1, c.2.2.1, c.2.2.2 + (N : Int)))) (shU N r) := by
  cases r with
  | inl x => obtain ⟨a, b⟩ := x; simp [preU, shU]
  | inr x => obtain ⟨a, b⟩ := x; simp [preU, shU]
theorem chB_shift (l : List UInt8) (p c : Nat) (acc : List UInt8) : chB (p + c) acc l = ((chB p acc l).1, (chB p acc l).2.1 + c, (chB p acc l).2.2) := by
  rw [chB_endL _ l (p + c) acc (Nat.le_refl _), chB_endL _ l p acc (Nat.le_refl _), endL_shift _ l p c (Nat.le_refl _)]
  cases he : endL p l with
  | none => simp; omega
  | some q =>
    have := (endL_ge _ l p q (Nat.le_refl _) he).1
    simp only [Option.map_some]
    rw [show q + c - (p + c) = q - p by omega]
theorem chunk_second {b S : ByteArray} {N : Nat} (hS : (sb S).drop N = sb b) (p : Nat) : chunkR S (N + p) = ((chunkR b p).1, N + (chunkR b p).2.1, N + (chunkR b p).2.2.1, (chunkR b p).2.2.2) := by
  have hd : ∀ k, (sb S).drop (N + k) = (sb b).drop k := fun k => by rw [← hS, List.drop_drop]
  have hr : runE blankN S (N + p) = N + runE blankN b p := by unfold runE; rw [hd]; omega
  unfold chunkR
  rw [hr, hd, Nat.add_comm N (runE blankN b p), chB_shift]
  dsimp only
  rw [show (chB (runE blankN b p) [] ((sb b).drop (runE blankN b p))).2.1 + N + 1 = N + ((chB (runE blankN b p) [] ((sb b).drop (runE blankN b p))).2.1 + 1) by omega, Nat.add_comm (runE blankN b p) N]
theorem clsR_shift (l : List Tok) (a : Int) (N : Nat) : clsR l (a + (N : Int)) = (clsR l a).map (fun c => (c.1, c.2.1, c.2.2.1, c.2.2.2 + (N : Int))) := by
  unfold clsR
  split
  · split <;> rfl
  · rfl
theorem readU_second {b S : ByteArray} {N : Nat} (hS : (sb S).drop N = sb b) (hsz : S.size = N + b.size) (n : Nat) : ∀ (p : Nat) (m : Option (List UInt8 × Bool)), b.size + 1 - p ≤ n → readU S m (N + p) = shU N (readU b m p) := by
  induction n with
  | zero =>
    intro p m hn
    rw [readU_out (by omega), readU_out (by omega)]
    unfold endU
    split
    · simp [shU, hsz]; omega
    · rfl
  | succ n ih =>
    intro p m hn
    have hend : endU S m = shU N (endU b m) := by
      unfold endU
      split
      · simp [shU, hsz]; omega
      · rfl
    by_cases hp : p ≤ b.size
    case neg => rw [readU_out (by omega), readU_out hp]; exact hend
    obtain ⟨⟨t, x, y, e⟩, hc⟩ : ∃ x, chunkR b p = x := ⟨_, rfl⟩
    have hle := chunk_le hp
    rw [hc] at hle
    dsimp only at hle
    have hcS := chunk_second hS p
    rw [hc] at hcS
    dsimp only at hcS
    have hIH := fun m => ih y m (by omega)
    rw [readU_in hp hc, readU_in (by omega) hcS]
    split
    · split
      · exact hend
      · simp [shU]; omega
    · split
      · exact hIH none
      · cases m with
        | some h =>
          dsimp only
          rw [shU_pre, hIH, show ((N + x : Nat) : Int) = (x : Int) + (N : Int) by omega]
          rfl
        | none =>
          dsimp only
          cases hl : allW (mkB t) 0 with
          | inr e => simp [shU]; omega
          | inl l =>
            dsimp only
            rw [show ((N + x : Nat) : Int) = (x : Int) + (N : Int) by omega, clsR_shift]
            cases hcl : clsR l (x : Int) with
            | some c =>
              simp only [Option.map_some]
              rw [shU_pre, hIH]
              rfl
            | none =>
              simp only [Option.map_none]
              cases headL l with
              | some h => exact hIH _
              | none => rfl
theorem readU_first {a S : ByteArray} {M : List UInt8} {N : Nat} (hS : sb S = sb a ++ M) (hM : (sb a).getLast? = some 33 → M.head? ≠ some 33) (hN : N ≤ S.size) (hbl : ∀ p, p ≤ a.size → ((sb a).drop p).dropWhile isBl = [] → runE blankN S p = runE blankN S N) (n : Nat) :
    ∀ (p : Nat) (m : Option (List UInt8 × Bool)) (cs : List Cls) (ss : List Src), a.size + 1 - p ≤ n → p ≤ a.size → readU a m p = .inl (cs, ss) → readU S m p = preU cs ss (readU S none N) := by
  have hSz : S.size = a.size + M.length := by rw [← sb_len, hS, List.length_append, sb_len]
  induction n with
  | zero => intro p m cs ss hn hp; omega
  | succ n ih =>
    intro p m cs ss hn hp h
    obtain ⟨⟨t, x, y, e⟩, hc⟩ : ∃ x, chunkR a p = x := ⟨_, rfl⟩
    rw [readU_in hp hc] at h
    cases e with
    | false =>
      rw [if_pos rfl] at h
      split at h
      · next ht =>
        cases m with
        | some h => cases h
        | none =>
          injection h with h
          injection h with h1 h2
          subst h1 h2
          rw [preU_nil]
          have hx : x = a.size ∧ x = runE blankN a p := by
            cases he : endL 0 ((sb a).drop p) with
            | none =>
              obtain ⟨t', b', hc', hi⟩ := chunk_none hp he
              rw [hc] at hc'
              simp only [Prod.mk.injEq, and_true] at hc'
              exact ⟨by rw [hc'.2.1]; exact hi.1 (by rw [← hc'.1]; exact ht), hc'.2.1⟩
            | some k =>
              obtain ⟨_, h2⟩ := chunk_some hp he
              rw [hc] at h2
              simp at h2
          have hdw : ((sb a).drop p).dropWhile isBl = [] := by rw [← drop_blank, ← hx.2, hx.1]; exact List.drop_of_length_le (by rw [sb_len]; omega)
          have hcS := chunk_same (hbl p hp hdw)
          obtain ⟨⟨t', x', y', e'⟩, hc'⟩ : ∃ x, chunkR S N = x := ⟨_, rfl⟩
          rw [readU_in hN hc', readU_in (by omega : p ≤ S.size) (hcS.trans hc')]
      · cases h
    | true =>
      obtain ⟨hcS, hya, hpy⟩ := chunk_first hS hM hp hc
      rw [readU_in (by omega : p ≤ S.size) hcS]
      rw [if_neg (by decide)] at h ⊢
      split at h
      · next ht => rw [if_pos ht]; exact ih y none cs ss (by omega) hya h
      · next ht =>
        rw [if_neg ht]
        cases m with
        | some hh =>
          dsimp only at h ⊢
          obtain ⟨c', s', hr, hxy⟩ := preU_inl h
          injection hxy with h1 h2
          rw [ih y _ c' s' (by omega) hya hr, preU_pre, h1, h2]
        | none =>
          dsimp only at h ⊢
          cases hl : allW (mkB t) 0 with
          | inr e => rw [hl] at h; cases h
          | inl l =>
            rw [hl] at h
            dsimp only at h ⊢
            cases hcl : clsR l (x : Int) with
            | some c =>
              rw [hcl] at h
              dsimp only at h ⊢
              obtain ⟨c', s', hr, hxy⟩ := preU_inl h
              injection hxy with h1 h2
              rw [ih y _ c' s' (by omega) hya hr, preU_pre, h1, h2]
            | none =>
              rw [hcl] at h
              dsimp only at h ⊢
              cases hh : headL l with
              | some v => rw [hh] at h; exact ih y _ cs ss (by omega) hya h
              | none => rw [hh] at h; cases h
end Go.Proofs.YtponopcnndkalaaGreatDoor.Fl
