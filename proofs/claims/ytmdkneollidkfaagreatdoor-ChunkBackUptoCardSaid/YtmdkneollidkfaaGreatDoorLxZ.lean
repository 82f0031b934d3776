/-
  The lexer: the laws' fixed fact.
-/
import Derived.Test.YtmdkneollidkfaaGreatDoorLxW
import Derived.Test.YtmdkneollidkfaaGreatDoorLxAr
namespace Go.Proofs.YtmdkneollidkfaaGreatDoor.Fl
open Go.RowKit

end Go.Proofs.YtmdkneollidkfaaGreatDoor.Fl

/-
  The laws of layer 9: short; a text, a blank and a text.
-/
namespace Go.Proofs.YtmdkneollidkfaaGreatDoor.Fl
open Go.RowKit

def shortB (s : ByteArray) (n : Nat) : ByteArray := if n < s.size then s.extract 0 n else s
theorem shortB_size (s : ByteArray) (n : Nat) : (shortB s n).size ≤ n := by
  unfold shortB
  split
  · have h := sb_len (s.extract 0 n)
    rw [sb_extract, List.drop_zero, List.length_take] at h
    omega
  · omega
theorem sb_append (s t : ByteArray) : sb (s ++ t) = sb s ++ sb t := by
  simp [sb]
theorem sb_blank (a b : ByteArray) : sb (a ++ ⟨#[32]⟩ ++ b) = sb a ++ 32 :: sb b := by
  rw [sb_append, sb_append, List.append_assoc]
  rfl
end Go.Proofs.YtmdkneollidkfaaGreatDoor.Fl

/-
  LexJoins where one of the two texts is refused.
-/
namespace Go.Proofs.YtmdkneollidkfaaGreatDoor.Fl
open Go.RowKit

theorem max_below {w w' : World} (h : MaxAt w) (hb : Below w.heap.size w w') : MaxAt w' := by
  obtain ⟨m, hm⟩ := h
  exact ⟨m, (World.cell?_of_block (a := ⟨0, 0, none⟩) (hb.block 0 (World.block_lt_of_cell? _ _ hm))).trans hm⟩
theorem allW_err : ∀ {s : ByteArray} {p q : Nat} {n : Int}, allW s p = .inr (n, q) → n ≠ 0 := by
  intro s p q n h
  obtain ⟨m, hm⟩ : ∃ m, s.size - p = m := ⟨_, rfl⟩
  induction m using Nat.strongRecOn generalizing p with
  | _ m ih =>
    rw [allW.eq_def] at h
    split at h
    · next e he =>
      injection h with h
      subst h
      exact tokR_err he
    · next k t n' q' p' he =>
      split at h
      · cases h
      · split at h
        · next hc =>
          split at h
          · cases h
          · next e' he' =>
            injection h with h
            subst h
            exact ih _ (by omega) he' rfl
        · cases h
theorem joins_err {a b : ByteArray} {x : List Tok} {n : Int} {q : Nat} (hx : allW a 0 = .inl x) (hy : allW b 0 = .inr (n, q)) : allW (a ++ ⟨#[32]⟩ ++ b) 0 = .inr (n, a.size + 1 + q) := by
  obtain ⟨x', t, m, _, hs⟩ := joins (sb_blank a b) hx
  rw [hs, hy]
  rfl
theorem blank_size (a b : ByteArray) : (a ++ ⟨#[32]⟩ ++ b).size = a.size + 1 + b.size := by
  have h := sb_len (a ++ ⟨#[32]⟩ ++ b)
  rw [sb_blank, List.length_append, List.length_cons, sb_len, sb_len] at h
  omega
end Go.Proofs.YtmdkneollidkfaaGreatDoor.Fl

/-
  The lexer: tokens that are the same; LexJoins' lists.
-/
namespace Go.Proofs.YtmdkneollidkfaaGreatDoor.Fl
open Go.RowKit

theorem eq_tok (k k' n n' q q' : Int) (t t' : ByteArray) (w : World) : (Op.equalIn 10000 143 (.agg #[.int .i64 k, .string t, .int .i64 n, .int .i64 q]) (.agg #[.int .i64 k', .string t', .int .i64 n', .int .i64 q'])).run Tryz.prog w = .ok (k == k' && decide (t.toList = t'.toList) && n == n' && q == q') w :=
  have hS : Tryz.prog.underlying 143 = some (.struct (Tryz.prog.fieldsOf 143)) := by kernel_rfl
  by
  rw [show (10000 : Nat) = 9999 + 1 from rfl, run_equalIn_agg w 9999 143 _ _ hS (by kernel_rfl)]
  simp only [Program.fieldsOf, Tryz.underlying143]
  go_simp
  by_cases h1 : k = k' <;> by_cases h2 : t.toList = t'.toList <;> by_cases h3 : n = n' <;> by_cases h4 : q = q' <;> simp [h1, h2, h3, h4]
theorem joins_ok {a b : ByteArray} {x y : List Tok} (hx : allW a 0 = .inl x) (hy : allW b 0 = .inl y) :
    ∃ x' e, x = x' ++ [e] ∧ allW (a ++ ⟨#[32]⟩ ++ b) 0 = .inl (x' ++ y.map (atK (a.size + 1))) := by
  obtain ⟨x', t, m, he, hs⟩ := joins (sb_blank a b) hx
  exact ⟨x', _, he, by rw [hs, hy]; rfl⟩
theorem allW_len {s : ByteArray} {p : Nat} {l : List Tok} (hp : p ≤ s.size) (h : allW s p = .inl l) : l.length + p ≤ s.size + 1 := by
  obtain ⟨m, hm⟩ : ∃ m, s.size - p = m := ⟨_, rfl⟩
  induction m using Nat.strongRecOn generalizing p l with
  | _ m ih =>
    cases ht : tokR s p with
    | inr e => rw [allW_no ht] at h; cases h
    | inl x =>
      obtain ⟨k, t, n, q, p'⟩ := x
      have hin := tokR_in hp ht
      by_cases hk : k = 0
      · subst hk
        rw [allW_end ht] at h
        injection h with h
        rw [← h, List.length_singleton]
        omega
      · have h1 := allW_go hp hin ht hk []
        rw [preW_nil, h] at h1
        cases hy : allW s p' with
        | inr e => rw [hy] at h1; cases h1.2
        | inl l' =>
          rw [hy] at h1
          have h2 := ih (s.size - p') (by have := h1.1; omega) hin hy rfl
          have h3 : l = (k, t, n, q) :: l' := by
            have := h1.2
            injection this
          rw [h3, List.length_cons]
          have := h1.1
          omega
end Go.Proofs.YtmdkneollidkfaaGreatDoor.Fl
