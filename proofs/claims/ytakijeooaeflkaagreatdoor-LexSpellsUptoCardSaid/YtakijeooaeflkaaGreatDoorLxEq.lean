/-
  The lexer: tokens that are the same; LexJoins' lists.
-/
import Derived.Test.YtakijeooaeflkaaGreatDoorLxJw
namespace Go.Proofs.YtakijeooaeflkaaGreatDoor.Fl
open Go.RowKit

theorem eq_tok (k k' n n' q q' : Int) (t t' : ByteArray) (w : World) : (Op.equalIn 10000 30 (.agg #[.int .i64 k, .string t, .int .i64 n, .int .i64 q]) (.agg #[.int .i64 k', .string t', .int .i64 n', .int .i64 q'])).run Tryz.prog w = .ok (k == k' && decide (t.toList = t'.toList) && n == n' && q == q') w :=
  have hS : Tryz.prog.underlying 30 = some (.struct (Tryz.prog.fieldsOf 30)) := by kernel_rfl
  by
  rw [show (10000 : Nat) = 9999 + 1 from rfl, run_equalIn_agg w 9999 30 _ _ hS (by kernel_rfl)]
  simp only [Program.fieldsOf, Tryz.underlying30]
  go_simp
  by_cases h1 : k = k' <;> by_cases h2 : t.toList = t'.toList <;> by_cases h3 : n = n' <;> by_cases h4 : q = q' <;> simp [h1, h2, h3, h4]
theorem joins_ok {a b : ByteArray} {x y : List Tok} (hx : allW a 0 = .inl x) (hy : allW b 0 = .inl y) :
    ∃ x' e, x = x' ++ [e] ∧ allW (a ++ ⟨#[32]⟩ ++ b) 0 = .inl (x' ++ y.map (atK (a.size + 1))) := by
  obtain ⟨x', t, m, he, hs⟩ := joins (sb_blank a b) hx
  exact ⟨x', _, he, by rw [hs, hy]; rfl⟩
theorem allW_len {s : ByteArray} {p : Nat} {l : List Tok} (hp : p ≤ s.size) (h : allW s p = .inl l) : l.length + p ≤ s.size + 1 := by
  obtain ⟨m, hm⟩ : ∃ m, s.size - p = m := ⟨_, rfl⟩
  induction m using Nat.strongRecOn generalizing p l with
  | _ m ih =>
    cases ht : tokR s p with
    | inr e => rw [allW_no ht] at h; cases h
    | inl x =>
      obtain ⟨k, t, n, q, p'⟩ := x
      have hin := tokR_in hp ht
      by_cases hk : k = 0
      · subst hk
        rw [allW_end ht] at h
        injection h with h
        rw [← h, List.length_singleton]
        omega
      · have h1 := allW_go hp hin ht hk []
        rw [preW_nil, h] at h1
        cases hy : allW s p' with
        | inr e => rw [hy] at h1; cases h1.2
        | inl l' =>
          rw [hy] at h1
          have h2 := ih (s.size - p') (by have := h1.1; omega) hin hy rfl
          have h3 : l = (k, t, n, q) :: l' := by
            have := h1.2
            injection this
          rw [h3, List.length_cons]
          have := h1.1
          omega
end Go.Proofs.YtakijeooaeflkaaGreatDoor.Fl
