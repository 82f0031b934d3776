/-
  Each byte of a text stands in the file where it is told.
-/
import Derived.Test.YtmdkneollidkfaaGreatDoorCkY
namespace Go.Proofs.YtmdkneollidkfaaGreatDoor.Fl
open Go.RowKit Go.Shelf

theorem UnAt.up2 {w w' : World} {v0 v1 : Value} {fs : List (Cls × Value)} {ss : List Src} (h : UnAt w w.heap.size v0 v1 fs ss) (hb : Below w.heap.size w w') : UnAt w' w'.heap.size v0 v1 fs ss := by
  obtain ⟨⟨A, c, e1, e2, e3⟩, ⟨A', c', g1, g2, g3⟩, hf⟩ := h.below hb
  exact ⟨⟨A, c, e1, e2, e3.more hb.size⟩, ⟨A', c', g1, g2, g3.more hb.size⟩, fun x hx => (hf x hx).imp fun A ⟨c, h1, h2, h3, h4⟩ => ⟨c, h1, h2, h3, h4.more hb.size⟩⟩
theorem unE_place (n : Nat) : ∀ (L : List UInt8) (p q : Nat), L.length ≤ n → endL p L = some q → ∀ k, (h : k < (unE (L.take (q - p))).length) →
    k + ((unE (L.take (q - p))).take k).count 33 < q - p ∧ L[k + ((unE (L.take (q - p))).take k).count 33]? = some (unE (L.take (q - p)))[k] := by
  induction n with
  | zero =>
    intro L p q hn he
    have : L = [] := List.eq_nil_of_length_eq_zero (by omega)
    subst this
    cases he
  | succ n ih =>
    intro L p q hn he k hk
    match L, hn with
    | [], _ => cases he
    | [c], _ =>
      rw [endL] at he
      split at he
      · injection he with he; subst he; simp [unE] at hk
      · cases he
    | c :: d :: l, hn =>
      simp only [List.length_cons] at hn
      have hge := endL_ge _ _ _ _ (Nat.le_refl _) he
      rw [endL] at he
      by_cases hc : c = 33
      · rw [if_pos hc] at he
        by_cases hd : d = 33
        · rw [if_pos hd] at he
          have h2 := endL_ge _ l (p + 2) q (Nat.le_refl _) he
          obtain ⟨m, rfl⟩ : ∃ m, q = p + 2 + m := ⟨q - (p + 2), by omega⟩
          have hih := ih l (p + 2) (p + 2 + m) (by omega) he
          rw [show p + 2 + m - (p + 2) = m by omega] at hih
          have e1 : (c :: d :: l).take (p + 2 + m - p) = 33 :: 33 :: l.take m := by
            rw [show p + 2 + m - p = m + 1 + 1 by omega, List.take_succ_cons, List.take_succ_cons, hc, hd]
          have e2 : unE ((c :: d :: l).take (p + 2 + m - p)) = 33 :: unE (l.take m) := by rw [e1, unE, if_pos ⟨rfl, rfl⟩]
          simp only [e2] at hk ⊢
          cases k with
          | zero => exact ⟨by simp; omega, by simp [hc]⟩
          | succ k =>
            obtain ⟨h3, h4⟩ := hih k (by simpa using hk)
            rw [List.take_succ_cons, List.count_cons_self]
            refine ⟨by omega, ?_⟩
            rw [show k + 1 + (((unE (l.take m)).take k).count 33 + 1) = (k + ((unE (l.take m)).take k).count 33) + 1 + 1 by omega, List.getElem?_cons_succ, List.getElem?_cons_succ, h4]
            rfl
        · rw [if_neg hd] at he
          injection he with he
          subst he
          simp [unE] at hk
      · rw [if_neg hc] at he
        have h2 := endL_ge _ (d :: l) (p + 1) q (Nat.le_refl _) he
        obtain ⟨m, rfl⟩ : ∃ m, q = p + 1 + m := ⟨q - (p + 1), by omega⟩
        have hih := ih (d :: l) (p + 1) (p + 1 + m) (by simp; omega) he
        rw [show p + 1 + m - (p + 1) = m by omega] at hih
        have e2 : unE ((c :: d :: l).take (p + 1 + m - p)) = c :: unE ((d :: l).take m) := by
          rw [show p + 1 + m - p = m + 1 by omega, List.take_succ_cons, unE_no c _ hc]
        simp only [e2] at hk ⊢
        cases k with
        | zero => exact ⟨by simp; omega, by simp⟩
        | succ k =>
          obtain ⟨h3, h4⟩ := hih k (by simpa using hk)
          rw [List.take_succ_cons, List.count_cons_of_ne hc]
          refine ⟨by omega, ?_⟩
          rw [show k + 1 + ((unE ((d :: l).take m)).take k).count 33 = (k + ((unE ((d :: l).take m)).take k).count 33) + 1 by omega, List.getElem?_cons_succ, h4]
          rfl
theorem trimR_pre (l : List UInt8) : ∃ n, n ≤ l.length ∧ trimR l = l.take n := by
  induction l with
  | nil => exact ⟨0, Nat.le_refl _, rfl⟩
  | cons c l ih =>
    obtain ⟨n, hn, e⟩ := ih
    rw [trimR_cons]
    split
    · split
      · exact ⟨0, Nat.zero_le _, rfl⟩
      · exact ⟨1, by simp, by simp⟩
    · exact ⟨n + 1, by simpa using hn, by rw [e, List.take_succ_cons]⟩
theorem chunk_place {s : ByteArray} {p a b : Nat} {t : List UInt8} (hp : p ≤ s.size) (h : chunkR s p = (t, a, b, true)) : ∀ k, (hk : k < t.length) → ∃ hl : a + k + (t.take k).count 33 < s.size, s[a + k + (t.take k).count 33] = t[k] := by
  unfold chunkR at h
  rw [chB_endL _ _ _ _ (Nat.le_refl _)] at h
  have hle := runE_le (f := blankN) hp
  cases he : endL (runE blankN s p) ((sb s).drop (runE blankN s p)) with
  | none => rw [he] at h; simp at h
  | some q =>
    rw [he] at h
    simp only [List.nil_append, Prod.mk.injEq, and_true] at h
    obtain ⟨h1, h2, h3⟩ := h
    rw [h2] at h1 he
    obtain ⟨n, hn, e⟩ := trimR_pre (unE (((sb s).drop a).take (q - a)))
    rw [e] at h1
    intro k hk
    rw [← h1, List.length_take] at hk
    have hkn : k < n := by omega
    have hkl : k < (unE (((sb s).drop a).take (q - a))).length := by omega
    obtain ⟨h4, h5⟩ := unE_place _ _ a q (Nat.le_refl _) he k hkl
    have e1 : t.take k = (unE (((sb s).drop a).take (q - a))).take k := by rw [← h1, List.take_take, Nat.min_eq_left (by omega)]
    have e2 : t[k]? = (unE (((sb s).drop a).take (q - a)))[k]? := by rw [← h1, List.getElem?_take_of_lt hkn]
    have h6 := endL_ge _ _ _ _ (Nat.le_refl _) he
    rw [List.length_drop, sb_len] at h6
    rw [e1]
    refine ⟨by omega, ?_⟩
    rw [List.getElem?_drop, ← Nat.add_assoc] at h5
    have hlt : a + k + ((unE (((sb s).drop a).take (q - a))).take k).count 33 < s.size := by omega
    have h7 : (sb s)[a + k + ((unE (((sb s).drop a).take (q - a))).take k).count 33]? = some (s[a + k + ((unE (((sb s).drop a).take (q - a))).take k).count 33]) := by
      rw [List.getElem?_eq_getElem (by rw [sb_len]; exact hlt)]; rfl
    rw [h7] at h5
    have h8 := Option.some.inj h5
    rw [h8]
    have h9 : some t[k] = some (unE (((sb s).drop a).take (q - a)))[k] := by
      rw [← List.getElem?_eq_getElem, e2, List.getElem?_eq_getElem hkl]
    exact (Option.some.inj h9).symm
theorem readU_src (s : ByteArray) (n : Nat) : ∀ (p : Nat) (m : Option (List UInt8 × Bool)) (cs : List Cls) (ss : List Src), s.size + 1 - p ≤ n → readU s m p = .inl (cs, ss) →
    ∀ x ∈ ss, ∃ q a b, q ≤ s.size ∧ chunkR s q = (x.2.2.1, a, b, true) ∧ x.2.2.2 = ((a : Nat) : Int) := by
  induction n with
  | zero =>
    intro p m cs ss hn h
    rw [readU_out (by omega)] at h
    unfold endU at h
    split at h
    · cases h
    · injection h with h; injection h with h1 h2; subst h1 h2; exact fun c hc => by cases hc
  | succ n ih =>
    intro p m cs ss hn h
    have hend : ∀ {m : Option (List UInt8 × Bool)}, endU s m = .inl (cs, ss) → ∀ x ∈ ss, ∃ q a b, q ≤ s.size ∧ chunkR s q = (x.2.2.1, a, b, true) ∧ x.2.2.2 = ((a : Nat) : Int) := by
      intro m h
      unfold endU at h
      split at h
      · cases h
      · injection h with h; injection h with h1 h2; subst h1 h2; exact fun c hc => by cases hc
    by_cases hp : p ≤ s.size
    case neg => rw [readU_out hp] at h; exact hend h
    obtain ⟨⟨t, a, b, e⟩, hc⟩ : ∃ x, chunkR s p = x := ⟨_, rfl⟩
    have hle := chunk_le hp
    rw [hc] at hle
    dsimp only at hle
    rw [readU_in hp hc] at h
    split at h
    · split at h
      · exact hend h
      · cases h
    · next hee =>
      have hee2 : e = true := by cases e with | true => rfl | false => exact absurd rfl hee
      subst hee2
      split at h
      · exact ih b none cs ss (by omega) h
      · split at h
        · obtain ⟨x, y, hr, hxy⟩ := preU_inl h
          injection hxy with h1 h2
          intro z hz
          rw [h2, List.mem_append, List.mem_singleton] at hz
          rcases hz with rfl | hz
          · exact ⟨p, a, b, hp, hc, rfl⟩
          · exact ih b _ x y (by omega) hr z hz
        · split at h
          · cases h
          · next l hl =>
            split at h
            · next c hcl =>
              obtain ⟨x, y, hr, hxy⟩ := preU_inl h
              injection hxy with h1 h2
              rw [h2]
              exact ih b _ x y (by omega) hr
            · split at h
              · exact ih b _ cs ss (by omega) h
              · cases h
theorem readT_src (s : ByteArray) : ∀ x ∈ unitS (readT s), ∃ q a b, q ≤ s.size ∧ chunkR s q = (x.2.2.1, a, b, true) ∧ x.2.2.2 = ((a : Nat) : Int) := by
  unfold readT
  split
  · intro x hx; cases hx
  · cases h : readU s none 0 with
    | inl y => obtain ⟨cs, ss⟩ := y; exact readU_src s _ 0 none cs ss (Nat.le_refl _) h
    | inr y => intro x hx; cases hx
end Go.Proofs.YtmdkneollidkfaaGreatDoor.Fl
