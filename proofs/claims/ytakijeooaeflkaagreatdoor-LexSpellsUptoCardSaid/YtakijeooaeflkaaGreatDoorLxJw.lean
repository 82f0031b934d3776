/-
  LexJoins where one of the two texts is refused.
-/
import Derived.Test.YtakijeooaeflkaaGreatDoorLxSh
namespace Go.Proofs.YtakijeooaeflkaaGreatDoor.Fl
open Go.RowKit

theorem max_below {w w' : World} (h : MaxAt w) (hb : Below w.heap.size w w') : MaxAt w' := by
  obtain ⟨m, hm⟩ := h
  exact ⟨m, (World.cell?_of_block (a := ⟨0, 0, none⟩) (hb.block 0 (World.block_lt_of_cell? _ _ hm))).trans hm⟩
theorem allW_err : ∀ {s : ByteArray} {p q : Nat} {n : Int}, allW s p = .inr (n, q) → n ≠ 0 := by
  intro s p q n h
  obtain ⟨m, hm⟩ : ∃ m, s.size - p = m := ⟨_, rfl⟩
  induction m using Nat.strongRecOn generalizing p with
  | _ m ih =>
    rw [allW.eq_def] at h
    split at h
    · next e he =>
      injection h with h
      subst h
      exact tokR_err he
    · next k t n' q' p' he =>
      split at h
      · cases h
      · split at h
        · next hc =>
          split at h
          · cases h
          · next e' he' =>
            injection h with h
            subst h
            exact ih _ (by omega) he' rfl
        · cases h
theorem joins_err {a b : ByteArray} {x : List Tok} {n : Int} {q : Nat} (hx : allW a 0 = .inl x) (hy : allW b 0 = .inr (n, q)) : allW (a ++ ⟨#[32]⟩ ++ b) 0 = .inr (n, a.size + 1 + q) := by
  obtain ⟨x', t, m, _, hs⟩ := joins (sb_blank a b) hx
  rw [hs, hy]
  rfl
theorem blank_size (a b : ByteArray) : (a ++ ⟨#[32]⟩ ++ b).size = a.size + 1 + b.size := by
  have h := sb_len (a ++ ⟨#[32]⟩ ++ b)
  rw [sb_blank, List.length_append, List.length_cons, sb_len, sb_len] at h
  omega
end Go.Proofs.YtakijeooaeflkaaGreatDoor.Fl
