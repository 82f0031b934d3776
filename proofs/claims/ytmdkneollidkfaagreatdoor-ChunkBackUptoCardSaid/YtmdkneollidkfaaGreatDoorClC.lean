/-
  Two files, one behind the other.
-/
import Derived.Test.YtmdkneollidkfaaGreatDoorClB
namespace Go.Proofs.YtmdkneollidkfaaGreatDoor.Fl
open Go.RowKit Go.Shelf

theorem endL_app (n : Nat) : ∀ (L : List UInt8) (p q : Nat) (M : List UInt8), L.length ≤ n → endL p L = some q → (L.getLast? = some 33 → M.head? ≠ some 33) → endL p (L ++ M) = some q := by
  induction n with
  | zero =>
    intro L p q M hn he _
    have : L = [] := List.eq_nil_of_length_eq_zero (by omega)
    subst this
    cases he
  | succ n ih =>
    intro L p q M hn he hM
    match L, hn with
    | [], _ => cases he
    | [c], _ =>
      rw [endL] at he
      split at he
      · next hc =>
        subst hc
        have h1 := hM rfl
        cases M with
        | nil => exact he
        | cons m M =>
          have hm : m ≠ 33 := fun e => h1 (by rw [e]; rfl)
          show endL p (33 :: m :: M) = _
          rw [endL, if_pos rfl, if_neg hm]
          exact he
      · cases he
    | c :: d :: l, hn =>
      simp only [List.length_cons] at hn
      have hlast : ∀ (x : UInt8) (y : List UInt8), y ≠ [] → (x :: y).getLast? = y.getLast? := fun x y hy => by
        cases y with
        | nil => exact absurd rfl hy
        | cons z y => simp
      rw [endL] at he
      show endL p (c :: d :: (l ++ M)) = _
      rw [endL]
      by_cases hc : c = 33
      · rw [if_pos hc] at he ⊢
        by_cases hd : d = 33
        · rw [if_pos hd] at he ⊢
          have hl : l ≠ [] := fun e => by rw [e] at he; cases he
          exact ih l (p + 2) q M (by omega) he (fun h => hM (by rw [hlast c _ (by simp), hlast d l hl]; exact h))
        · rw [if_neg hd] at he ⊢; exact he
      · rw [if_neg hc] at he ⊢
        exact ih (d :: l) (p + 1) q M (by simp; omega) he (fun h => hM (by rw [hlast c _ (by simp)]; exact h))
theorem endL_noblank {p : Nat} {L : List UInt8} (h : L.dropWhile isBl = []) : endL p L = none := by
  rw [endL_blank, h]; rfl
theorem getLast_drop (l : List UInt8) (p : Nat) (h : p < l.length) : (l.drop p).getLast? = l.getLast? := by
  induction l generalizing p with
  | nil => simp at h
  | cons c l ih =>
    cases p with
    | zero => rfl
    | succ p =>
      rw [List.drop_succ_cons, ih p (by simpa using h)]
      cases l with
      | nil => simp at h
      | cons d l => simp
/-- a chunk that ends in the first file is the same in both -/
theorem chunk_first {a S : ByteArray} {M : List UInt8} (hS : sb S = sb a ++ M) (hM : (sb a).getLast? = some 33 → M.head? ≠ some 33) {p x y : Nat} {t : List UInt8} (hp : p ≤ a.size) (h : chunkR a p = (t, x, y, true)) : chunkR S p = (t, x, y, true) ∧ y ≤ a.size ∧ p < y := by
  cases he : endL 0 ((sb a).drop p) with
  | none =>
    obtain ⟨t', b', hc, _⟩ := chunk_none hp he
    rw [hc] at h
    simp at h
  | some k =>
    obtain ⟨h1, h2⟩ := chunk_some hp he
    rw [h2] at h
    have hSz : S.size = a.size + M.length := by rw [← sb_len, hS, List.length_append, sb_len]
    have hd : (sb S).drop p = (sb a).drop p ++ M := by rw [hS, List.drop_append_of_le_length (by rw [sb_len]; exact hp)]
    have hplt : p < (sb a).length := by rw [sb_len]; omega
    have he2 : endL 0 ((sb S).drop p) = some k := by rw [hd]; exact endL_app _ _ _ _ _ (Nat.le_refl _) he (fun h => hM (by rw [← getLast_drop _ _ hplt]; exact h))
    obtain ⟨_, h4⟩ := chunk_some (by omega : p ≤ S.size) he2
    have hr : runE blankN S p = runE blankN a p := by
      unfold runE
      rw [hd, List.takeWhile_append]
      have hne : ¬ (List.takeWhile (fun c : UInt8 => blankN c.toNat) ((sb a).drop p)).length = ((sb a).drop p).length := fun e => by
        have h5 : ((sb a).drop p).dropWhile isBl = [] := by
          rw [← drop_run]
          exact List.drop_of_length_le (by show _ ≤ (List.takeWhile (fun c : UInt8 => blankN c.toNat) ((sb a).drop p)).length; omega)
        rw [endL_noblank h5] at he
        cases he
      rw [if_neg hne]
    rw [h4, hr, hd, List.take_append_of_le_length (by rw [List.length_drop, sb_len]; omega)]
    simp only [Prod.mk.injEq, and_true] at h
    obtain ⟨h5, h6, h7⟩ := h
    exact ⟨by rw [h5, h6, h7], by omega, by omega⟩
theorem chunk_same {s : ByteArray} {p q : Nat} (h : runE blankN s p = runE blankN s q) : chunkR s p = chunkR s q := by unfold chunkR; rw [h]
def shU (N : Nat) : UnitR → UnitR
  | .inl (cs, ss) => .inl (cs.map (fun c => (c.1, c.2.1, c.2.2.1, c.2.2.2 + (N : Int))), ss.map (fun c => (c.1, c.2.1, c.2.2.1, c.2.2.2 + (N : Int))))
  | .inr (a, n) => .inr (a + (N : Int), n)
theorem shU_pre (N : Nat) (cs : List Cls) (ss : List Src) (r : UnitR) : shU N (preU cs ss r) = preU (cs.map (fun c => (c.1, c.2.1, c.2.2.1, c.2.2.2 + (N : Int)))) (ss.map (fun c => (c.1, c.2.1, c.2.2.1, c.2.2.2 + (N : Int)))) (shU N r) := by
  cases r with
  | inl x => obtain ⟨a, b⟩ := x; simp [preU, shU]
  | inr x => obtain ⟨a, b⟩ := x; simp [preU, shU]
theorem chB_shift (l : List UInt8) (p c : Nat) (acc : List UInt8) : chB (p + c) acc l = ((chB p acc l).1, (chB p acc l).2.1 + c, (chB p acc l).2.2) := by
  rw [chB_endL _ l (p + c) acc (Nat.le_refl _), chB_endL _ l p acc (Nat.le_refl _), endL_shift _ l p c (Nat.le_refl _)]
  cases he : endL p l with
  | none => simp; omega
  | some q =>
    have := (endL_ge _ l p q (Nat.le_refl _) he).1
    simp only [Option.map_some]
    rw [show q + c - (p + c) = q - p by omega]
theorem chunk_second {b S : ByteArray} {N : Nat} (hS : (sb S).drop N = sb b) (p : Nat) : chunkR S (N + p) = ((chunkR b p).1, N + (chunkR b p).2.1, N + (chunkR b p).2.2.1, (chunkR b p).2.2.2) := by
  have hd : ∀ k, (sb S).drop (N + k) = (sb b).drop k := fun k => by rw [← hS, List.drop_drop]
  have hr : runE blankN S (N + p) = N + runE blankN b p := by unfold runE; rw [hd]; omega
  unfold chunkR
  rw [hr, hd, Nat.add_comm N (runE blankN b p), chB_shift]
  dsimp only
  rw [show (chB (runE blankN b p) [] ((sb b).drop (runE blankN b p))).2.1 + N + 1 = N + ((chB (runE blankN b p) [] ((sb b).drop (runE blankN b p))).2.1 + 1) by omega, Nat.add_comm (runE blankN b p) N]
theorem clsR_shift (l : List Tok) (a : Int) (N : Nat) : clsR l (a + (N : Int)) = (clsR l a).map (fun c => (c.1, c.2.1, c.2.2.1, c.2.2.2 + (N : Int))) := by
  unfold clsR
  split
  · split <;> rfl
  · rfl
theorem readU_second {b S : ByteArray} {N : Nat} (hS : (sb S).drop N = sb b) (hsz : S.size = N + b.size) (n : Nat) : ∀ (p : Nat) (m : Option (List UInt8 × Bool)), b.size + 1 - p ≤ n → readU S m (N + p) = shU N (readU b m p) := by
  induction n with
  | zero =>
    intro p m hn
    rw [readU_out (by omega), readU_out (by omega)]
    unfold endU
    split
    · simp [shU, hsz]; omega
    · rfl
  | succ n ih =>
    intro p m hn
    have hend : endU S m = shU N (endU b m) := by
      unfold endU
      split
      · simp [shU, hsz]; omega
      · rfl
    by_cases hp : p ≤ b.size
    case neg => rw [readU_out (by omega), readU_out hp]; exact hend
    obtain ⟨⟨t, x, y, e⟩, hc⟩ : ∃ x, chunkR b p = x := ⟨_, rfl⟩
    have hle := chunk_le hp
    rw [hc] at hle
    dsimp only at hle
    have hcS := chunk_second hS p
    rw [hc] at hcS
    dsimp only at hcS
    have hIH := fun m => ih y m (by omega)
    rw [readU_in hp hc, readU_in (by omega) hcS]
    split
    · split
      · exact hend
      · simp [shU]; omega
    · split
      · exact hIH none
      · cases m with
        | some h =>
          dsimp only
          rw [shU_pre, hIH, show ((N + x : Nat) : Int) = (x : Int) + (N : Int) by omega]
          rfl
        | none =>
          dsimp only
          cases hl : allW (mkB t) 0 with
          | inr e => simp [shU]; omega
          | inl l =>
            dsimp only
            rw [show ((N + x : Nat) : Int) = (x : Int) + (N : Int) by omega, clsR_shift]
            cases hcl : clsR l (x : Int) with
            | some c =>
              simp only [Option.map_some]
              rw [shU_pre, hIH]
              rfl
            | none =>
              simp only [Option.map_none]
              cases headL l with
              | some h => exact hIH _
              | none => rfl
theorem readU_first {a S : ByteArray} {M : List UInt8} {N : Nat} (hS : sb S = sb a ++ M) (hM : (sb a).getLast? = some 33 → M.head? ≠ some 33) (hN : N ≤ S.size) (hbl : ∀ p, p ≤ a.size → ((sb a).drop p).dropWhile isBl = [] → runE blankN S p = runE blankN S N) (n : Nat) :
    ∀ (p : Nat) (m : Option (List UInt8 × Bool)) (cs : List Cls) (ss : List Src), a.size + 1 - p ≤ n → p ≤ a.size → readU a m p = .inl (cs, ss) → readU S m p = preU cs ss (readU S none N) := by
  have hSz : S.size = a.size + M.length := by rw [← sb_len, hS, List.length_append, sb_len]
  induction n with
  | zero => intro p m cs ss hn hp; omega
  | succ n ih =>
    intro p m cs ss hn hp h
    obtain ⟨⟨t, x, y, e⟩, hc⟩ : ∃ x, chunkR a p = x := ⟨_, rfl⟩
    rw [readU_in hp hc] at h
    cases e with
    | false =>
      rw [if_pos rfl] at h
      split at h
      · next ht =>
        cases m with
        | some h => cases h
        | none =>
          injection h with h
          injection h with h1 h2
          subst h1 h2
          rw [preU_nil]
          have hx : x = a.size ∧ x = runE blankN a p := by
            cases he : endL 0 ((sb a).drop p) with
            | none =>
              obtain ⟨t', b', hc', hi⟩ := chunk_none hp he
              rw [hc] at hc'
              simp only [Prod.mk.injEq, and_true] at hc'
              exact ⟨by rw [hc'.2.1]; exact hi.1 (by rw [← hc'.1]; exact ht), hc'.2.1⟩
            | some k =>
              obtain ⟨_, h2⟩ := chunk_some hp he
              rw [hc] at h2
              simp at h2
          have hdw : ((sb a).drop p).dropWhile isBl = [] := by rw [← drop_blank, ← hx.2, hx.1]; exact List.drop_of_length_le (by rw [sb_len]; omega)
          have hcS := chunk_same (hbl p hp hdw)
          obtain ⟨⟨t', x', y', e'⟩, hc'⟩ : ∃ x, chunkR S N = x := ⟨_, rfl⟩
          rw [readU_in hN hc', readU_in (by omega : p ≤ S.size) (hcS.trans hc')]
      · cases h
    | true =>
      obtain ⟨hcS, hya, hpy⟩ := chunk_first hS hM hp hc
      rw [readU_in (by omega : p ≤ S.size) hcS]
      rw [if_neg (by decide)] at h ⊢
      split at h
      · next ht => rw [if_pos ht]; exact ih y none cs ss (by omega) hya h
      · next ht =>
        rw [if_neg ht]
        cases m with
        | some hh =>
          dsimp only at h ⊢
          obtain ⟨c', s', hr, hxy⟩ := preU_inl h
          injection hxy with h1 h2
          rw [ih y _ c' s' (by omega) hya hr, preU_pre, h1, h2]
        | none =>
          dsimp only at h ⊢
          cases hl : allW (mkB t) 0 with
          | inr e => rw [hl] at h; cases h
          | inl l =>
            rw [hl] at h
            dsimp only at h ⊢
            cases hcl : clsR l (x : Int) with
            | some c =>
              rw [hcl] at h
              dsimp only at h ⊢
              obtain ⟨c', s', hr, hxy⟩ := preU_inl h
              injection hxy with h1 h2
              rw [ih y _ c' s' (by omega) hya hr, preU_pre, h1, h2]
            | none =>
              rw [hcl] at h
              dsimp only at h ⊢
              cases hh : headL l with
              | some v => rw [hh] at h; exact ih y _ cs ss (by omega) hya h
              | none => rw [hh] at h; cases h
end Go.Proofs.YtmdkneollidkfaaGreatDoor.Fl

/-
  Two files, one behind the other: what the whole says; what Told made of each, one behind the other.
-/
namespace Go.Proofs.YtmdkneollidkfaaGreatDoor.Fl
open Go.RowKit Go.Shelf

theorem while_app {f : UInt8 → Bool} {l m : List UInt8} (h : l.dropWhile f = []) : (l ++ m).takeWhile f = l ++ m.takeWhile f := by
  induction l with
  | nil => rfl
  | cons x xs ih =>
    rw [List.dropWhile_cons] at h
    by_cases hx : f x = true
    · rw [if_pos hx] at h
      rw [List.cons_append, List.takeWhile_cons, if_pos hx, ih h]; rfl
    · rw [if_neg hx] at h; cases h
theorem readT_join {a b S : ByteArray} {cs : List Cls} {ss : List Src} (sp : List UInt8) (hsp : sp = [] ∨ sp = [32]) (hS : sb S = sb a ++ (sp ++ sb b)) (hlast : (sb a).getLast? = some 33 → (sp ++ sb b).head? ≠ some 33) (hz : S.size ≤ 65536) (h : readT a = .inl (cs, ss)) :
    readT S = preU cs ss (shU (a.size + sp.length) (readT b)) := by
  have hSz : S.size = a.size + sp.length + b.size := by rw [← sb_len, hS, List.length_append, List.length_append, sb_len, sb_len]; omega
  unfold readT at h ⊢
  rw [if_neg (by omega)] at h
  rw [if_neg (by omega), if_neg (by omega)]
  have hd : (sb S).drop (a.size + sp.length) = sb b := by rw [hS, ← List.append_assoc]; exact List.drop_left' (by rw [List.length_append, sb_len])
  have hsw : sp.dropWhile (fun c : UInt8 => blankN c.toNat) = [] := by rcases hsp with rfl | rfl <;> rfl
  have hbl : ∀ p, p ≤ a.size → ((sb a).drop p).dropWhile isBl = [] → runE blankN S p = runE blankN S (a.size + sp.length) := by
    intro p hp hq
    have e1 : (sb S).drop p = (sb a).drop p ++ (sp ++ sb b) := by rw [hS]; exact List.drop_append_of_le_length (by rw [sb_len]; exact hp)
    unfold runE
    rw [e1, hd, while_app (f := fun c : UInt8 => blankN c.toNat) hq, List.length_append, while_app hsw, List.length_append, List.length_drop, sb_len]
    omega
  have h1 := readU_first (N := a.size + sp.length) hS hlast (by omega) hbl (a.size + 1) 0 none cs ss (by omega) (by omega) h
  have h2 := readU_second hd hSz (b.size + 1) 0 none (by omega)
  rw [Nat.add_zero] at h2
  rw [h1, h2]

theorem unitE_pre (cs : List Cls) (ss : List Src) (N : Nat) (r : UnitR) : unitE (preU cs ss (shU N r)) = unitE r := by rcases r with ⟨_, _⟩ | ⟨_, _⟩ <;> rfl
theorem unitP_pre (cs : List Cls) (ss : List Src) (N : Nat) (r : UnitR) (h : unitE r ≠ 0) : unitP (preU cs ss (shU N r)) = (N : Int) + unitP r := by
  rcases r with ⟨_, _⟩ | ⟨_, _⟩
  · exact absurd rfl h
  · simp only [preU, shU, unitP]; omega
theorem unit_inl (r : UnitR) (h : unitE r = 0) (hne : ∀ x, r ≠ .inr (x, 0)) : r = .inl (unitC r, unitS r) := by
  rcases r with ⟨a, b⟩ | ⟨a, b⟩
  · rfl
  · exact absurd (by simp only [unitE] at h; rw [h]) (hne a)

theorem allW_err0 {s : ByteArray} (n : Nat) : ∀ (p : Nat) (e : Int × Nat), s.size - p ≤ n → allW s p = .inr e → e.1 ≠ 0 := by
  induction n with
  | zero =>
    intro p e hn h
    rw [allW] at h
    split at h
    · next e' he => injection h with h; subst h; exact tokR_err (q := e'.2) he
    · split at h
      · cases h
      · split at h
        · omega
        · cases h
  | succ n ih =>
    intro p e hn h
    rw [allW] at h
    split at h
    · next e' he => injection h with h; subst h; exact tokR_err (q := e'.2) he
    · next k t m q p' he =>
      split at h
      · cases h
      · split at h
        · next hp =>
          split at h
          · cases h
          · next e' he2 => injection h with h; subst h; exact ih p' e' (by omega) he2
        · cases h
theorem preU_inr {cs : List Cls} {ss : List Src} {r : UnitR} {x : Int × Int} (h : preU cs ss r = .inr x) : r = .inr x := by
  rcases r with ⟨_, _⟩ | y
  · cases h
  · injection h with h; rw [h]
theorem readU_ne (s : ByteArray) (n : Nat) : ∀ (p : Nat) (m : Option (List UInt8 × Bool)) (x : Int), s.size + 1 - p ≤ n → readU s m p ≠ .inr (x, 0) := by
  have he : ∀ (m : Option (List UInt8 × Bool)) (x : Int), endU s m ≠ .inr (x, 0) := by
    intro m x h
    unfold endU at h
    split at h
    · injection h with h; injection h with _ h; cases h
    · cases h
  induction n with
  | zero => intro p m x hn; rw [readU_out (by omega)]; exact he m x
  | succ n ih =>
    intro p m x hn h
    by_cases hp : p ≤ s.size
    case neg => rw [readU_out hp] at h; exact he m x h
    obtain ⟨⟨t, a, b, e⟩, hc⟩ : ∃ x, chunkR s p = x := ⟨_, rfl⟩
    have hge := chunk_le hp
    rw [hc] at hge
    dsimp only at hge
    rw [readU_in hp hc] at h
    split at h
    · split at h
      · exact he m x h
      · injection h with h; injection h with _ h; cases h
    · split at h
      · exact ih _ _ _ (by omega) h
      · cases m with
        | some hh => dsimp only at h; exact ih _ _ _ (by omega) (preU_inr h)
        | none =>
          dsimp only at h
          cases hl : allW (mkB t) 0 with
          | inr e =>
            rw [hl] at h
            injection h with h; injection h with _ h
            exact allW_err0 _ 0 e (Nat.le_refl _) hl h
          | inl l =>
            rw [hl] at h
            dsimp only at h
            cases hcl : clsR l (a : Int) with
            | some c => rw [hcl] at h; exact ih _ _ _ (by omega) (preU_inr h)
            | none =>
              rw [hcl] at h
              dsimp only at h
              cases hh : headL l with
              | some v => rw [hh] at h; exact ih _ _ _ (by omega) h
              | none => rw [hh] at h; injection h with h; injection h with _ h; cases h
theorem readT_ok {s : ByteArray} (h : unitE (readT s) = 0) : readT s = .inl (unitC (readT s), unitS (readT s)) := by
  refine unit_inl _ h fun x hx => ?_
  unfold readT at hx
  split at hx
  · injection hx with h; injection h with _ h; cases h
  · exact readU_ne s _ _ _ _ (Nat.le_refl _) hx

theorem readU_at (s : ByteArray) (n : Nat) : ∀ (p : Nat) (m : Option (List UInt8 × Bool)) (x y : Int), s.size + 1 - p ≤ n → readU s m p = .inr (x, y) → 0 ≤ x ∧ x ≤ (s.size : Int) := by
  have he : ∀ (m : Option (List UInt8 × Bool)) (x y : Int), endU s m = .inr (x, y) → 0 ≤ x ∧ x ≤ (s.size : Int) := by
    intro m x y h
    unfold endU at h
    split at h
    · injection h with h; injection h with h _; omega
    · cases h
  induction n with
  | zero => intro p m x y hn h; rw [readU_out (by omega)] at h; exact he m x y h
  | succ n ih =>
    intro p m x y hn h
    by_cases hp : p ≤ s.size
    case neg => rw [readU_out hp] at h; exact he m x y h
    obtain ⟨⟨t, a, b, e⟩, hc⟩ : ∃ x, chunkR s p = x := ⟨_, rfl⟩
    have hge := chunk_le hp
    rw [hc] at hge
    dsimp only at hge
    rw [readU_in hp hc] at h
    split at h
    · split at h
      · exact he m x y h
      · injection h with h; injection h with h _; omega
    · split at h
      · exact ih _ _ _ _ (by omega) h
      · cases m with
        | some hh => dsimp only at h; exact ih _ _ _ _ (by omega) (preU_inr h)
        | none =>
          dsimp only at h
          cases hl : allW (mkB t) 0 with
          | inr e =>
            rw [hl] at h
            injection h with h; injection h with h _; omega
          | inl l =>
            rw [hl] at h
            dsimp only at h
            cases hcl : clsR l (a : Int) with
            | some c => rw [hcl] at h; exact ih _ _ _ _ (by omega) (preU_inr h)
            | none =>
              rw [hcl] at h
              dsimp only at h
              cases hh : headL l with
              | some v => rw [hh] at h; exact ih _ _ _ _ (by omega) h
              | none => rw [hh] at h; injection h with h; injection h with h _; omega
theorem readT_at (s : ByteArray) : 0 ≤ unitP (readT s) ∧ unitP (readT s) ≤ (s.size : Int) := by
  obtain ⟨r, hr⟩ : ∃ r, readT s = r := ⟨_, rfl⟩
  rw [hr]
  rcases r with ⟨_, _⟩ | ⟨x, y⟩
  · exact ⟨Int.le_refl 0, Int.natCast_nonneg _⟩
  · unfold readT at hr
    split at hr
    · injection hr with h; injection h with h _; rw [← h]; exact ⟨Int.le_refl 0, Int.natCast_nonneg _⟩
    · exact readU_at s _ _ _ _ _ (Nat.le_refl _) hr

/-- the classes that Told made, in rows of the call's own -/
structure JcW (w0 w : World) (v : Value) (fs : List (Cls × Value)) : Prop where
  own : OwnY w w0.heap.size v fs
  inn : ∀ x ∈ fs, ∃ A c, x.2 = .slice A x.1.2.2.1.length c ∧ OwnS w w0.heap.size x.2 x.1.2.2.1
section
variable {w0 w w' : World} {v v' : Value} {fs gs ts : List (Cls × Value)}
theorem JcW.below (h : JcW w0 w v fs) (hb : Below w.heap.size w w') : JcW w0 w' v fs :=
  ⟨h.own.below hb, fun x hx => (h.inn x hx).imp fun A ⟨c, e, ho⟩ => ⟨c, e, ho.below hb⟩⟩
theorem JcW.one (h : JcW w0 w v fs) : ∀ u ∈ cc_ fs, u.oneCell' = true := by
  intro u hu
  unfold cc_ at hu
  rw [List.mem_flatMap] at hu
  obtain ⟨x, hx, hu⟩ := hu
  obtain ⟨A, c, e, _⟩ := h.inn x hx
  simp only [List.mem_cons, List.not_mem_nil, or_false] at hu
  rcases hu with rfl | rfl | rfl | rfl
  · rfl
  · rfl
  · rw [e]; rfl
  · rfl
theorem JcW.app (h : JcW w0 w v fs) (h2 : JcW w0 w v' gs) (hts : ts = fs ++ gs) {v3 : Value} (ho : OwnY w' w0.heap.size v3 ts)
    (hk : ∀ k, k < w.heap.size → some k ≠ v.ownBlock → w'.heap[k]? = w.heap[k]?) : JcW w0 w' v3 ts := by
  refine ⟨ho, fun x hx => ?_⟩
  have hx' : ∃ A c, x.2 = .slice A x.1.2.2.1.length c ∧ OwnS w w0.heap.size x.2 x.1.2.2.1 := by
    rw [hts, List.mem_append] at hx
    exact hx.elim (h.inn x) (h2.inn x)
  obtain ⟨A, c, e, hf⟩ := hx'
  exact ⟨A, c, e, hf.keep fun j hj => hk j (World.ownsRow.lt hf _ hj).2 (own_far hf h.own (by decide) hj)⟩
theorem JcW.keepX {xs : List Src} {u : Value} (h : JcW w0 w v fs) (hx : OwnX w w0.heap.size u xs) (hk : ∀ k, k < w.heap.size → some k ≠ u.ownBlock → w'.heap[k]? = w.heap[k]?) : JcW w0 w' v fs :=
  ⟨h.own.keep fun j hj => hk j (World.ownsRow.lt h.own _ hj).2 (own_far h.own hx (by decide) hj), fun x hx' => (h.inn x hx').imp fun A ⟨c, e, hf⟩ => ⟨c, e, hf.keep fun j hj => hk j (World.ownsRow.lt hf _ hj).2 (own_far hf hx (by decide) hj)⟩⟩
theorem JcW.cell (h : JcW w0 w v fs) {G : Nat} {cs : Array Value} {fr : Nat × Nat} (hq : w.heap[G]? = some (.cells cs 45 fr)) (k : Nat) (x : Value) : JcW w0 (w.setCell ⟨G, k, none⟩ x) v fs :=
  ⟨h.own.cell (own_ne h.own hq (by decide)) x, fun y hy => (h.inn y hy).imp fun A ⟨c, e, hf⟩ => ⟨c, e, hf.cell (own_ne hf hq (by decide)) x⟩⟩
end
theorem JcW.told {w0 w' w : World} {v : Value} {fs : List (Cls × Value)} (hs : w0.heap.size ≤ w'.heap.size) (hC : OwnY w w'.heap.size v fs) (hF : ∀ x ∈ fs, ∃ A c, x.2 = .slice A x.1.2.2.1.length c ∧ OwnS w w'.heap.size x.2 x.1.2.2.1) : JcW w0 w v fs :=
  ⟨hC.wide hs, fun x hx => (hF x hx).imp fun A ⟨c, e, ho⟩ => ⟨c, e, ho.wide hs⟩⟩
def shC (N : Nat) (c : Cls) : Cls := (c.1, c.2.1, c.2.2.1, c.2.2.2 + (N : Int))
def shS (N : Nat) (c : Src) : Src := (c.1, c.2.1, c.2.2.1, c.2.2.2 + (N : Int))
theorem unit_join {rt : UnitR} (h : unitE rt = 0) (h2 : rt = .inl (unitC rt, unitS rt)) (cs : List Cls) (ss : List Src) (N : Nat) :
    unitC (preU cs ss (shU N rt)) = cs ++ (unitC rt).map (shC N) ∧ unitS (preU cs ss (shU N rt)) = ss ++ (unitS rt).map (shS N) := by
  rcases rt with ⟨a, b⟩ | ⟨a, b⟩
  · exact ⟨rfl, rfl⟩
  · cases h2
theorem joins_nA {k2 ts : List (Cls × Value)} {cs ds : List Cls} {N : Nat} (h1 : k2.map (fun x => x.1) = cs ++ ds.map (shC N)) (h2 : ts.map (fun x => x.1) = cs ++ ds) : k2.map nA = ts.map nA := by
  have e1 := congrArg (List.map (fun c : Cls => (c.1, c.2.1, c.2.2.1))) h1
  have e2 := congrArg (List.map (fun c : Cls => (c.1, c.2.1, c.2.2.1))) h2
  rw [List.map_map] at e1 e2
  have e3 : List.map (fun c : Cls => (c.1, c.2.1, c.2.2.1)) (cs ++ ds.map (shC N)) = List.map (fun c : Cls => (c.1, c.2.1, c.2.2.1)) (cs ++ ds) := by
    rw [List.map_append, List.map_append, List.map_map]; rfl
  exact e1.trans (e3.trans e2.symm)
theorem joins_nS {ss xs : List Src} {N : Nat} : (ss ++ xs.map (shS N)).map nS = (ss ++ xs).map nS := by
  rw [List.map_append, List.map_append, List.map_map]; rfl
theorem sc__oneC (xs : List Src) : ∀ u ∈ sc_ xs, u.oneCell' = true := by
  intro u hu
  unfold sc_ at hu
  rw [List.mem_flatMap] at hu
  obtain ⟨x, hx, hu⟩ := hu
  simp only [List.mem_cons, List.not_mem_nil, or_false] at hu
  rcases hu with rfl | rfl | rfl | rfl <;> rfl
theorem step_append_x {w : World} {base c : Nat} {A : Option Addr} {xs news : List Src} {v : Value} {ops : Array Oper} {o : Oper} {a : Act} {K : Act → World → Prop} {Q : Exit → Act → World → Prop} {E : Prop} (hg : o.guard = none) (s x : Operand) (ho : o.op = .call { callee := .builtin .append, args := #[s, x], argTypes := #[43, 43] })
    (hs : a.eval s = v) (hx : a.eval x = .slice A news.length c) (hown : OwnX w base v xs) (hr : Rd w w.heap.size A (sc_ news)) (hA : A = none → news.length = 0) (hone : ∀ v ∈ sc_ news, v.oneCell' = true) (hl : xs.length ≤ 100000000) (hl2 : news.length ≤ 100000000) (hb : base ≤ w.heap.size)
    (h : ∀ A' ts c' w', Hid (ts = xs ++ news) → Hid (OwnX w' base (.slice A' ts.length c') ts) → Hid (Below base w w' ∧ (∀ k, k < w.heap.size → some k ≠ v.ownBlock → w'.heap[k]? = w.heap[k]?) ∧ ((Value.slice A' ts.length c').ownBlock = v.ownBlock ∨ (Value.slice A' ts.length c').ownBlock = some w.heap.size)) → K (a.put o.dst (.slice A' ts.length c')) w') :
    if Region.wanted o (yielded ops a.tmps) = true then Oper.wp Tryz.prog o a w K Q else E := by
  obtain ⟨i0, hi, hz0, hz1, hz2⟩ := info_parts srcinfo
  refine step_append_rd (base := base) (size := 4) (bytes := 48) (n := xs.length) (m := news.length) (c := c) (v := v) (xs := sc_ xs) (news := sc_ news) hg s x ho Tryz.underlying43 hi hz0 hz1 hz2 rfl (by decide) hs hx hown hr (sc__len _) hA hone (by unfold maxLen; omega) (by omega) hb ?_
  intro v' w' happ
  obtain ⟨A', c', rfl, _, _⟩ := happ.slice
  have e : xs.length + news.length = (xs ++ news).length := by simp
  have ho := happ.own
  have hat := happ.at_
  rw [e, show sc_ xs ++ sc_ news = sc_ (xs ++ news) from (sc__app _ _).symm] at ho
  rw [e] at hat ⊢
  exact h A' (xs ++ news) c' w' (Lib.hid rfl) (Lib.hid ho) (Lib.hid ⟨(Below.refl _ _).grown happ.grown hb (fun j hj => (World.ownsRow.lt hown j hj).1), happ.grown.block, hat⟩)
end Go.Proofs.YtmdkneollidkfaaGreatDoor.Fl
