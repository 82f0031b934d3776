/-
  LexJoins where both texts are read.
-/
import Derived.Test.YtakijeooaeflkaaGreatDoorLxEq
namespace Go.Proofs.YtakijeooaeflkaaGreatDoor.Fl
open Go.RowKit

theorem rd_initK {w : World} {B : Nat} {A : Option Addr} {x : List Tok} {e : Tok} (h : Rd w B A (ct (x ++ [e]))) : Rd w B A (ct x) := by
  have h2 := h.take_ (ct x).length
  rwa [ct_append, List.take_left'  rfl] at h2
theorem ownK_none {w : World} {base n c : Nat} {A : Option Addr} {xs : List Tok} (h : OwnK w base (.slice A n c) xs) : (A = none → xs.length = 0) ∧ xs.length ≤ c := by
  rcases h.2 with ⟨e1, e2⟩ | ⟨g, cap, cur, e1, _, _, hc, _⟩
  · exact ⟨fun _ => e2, by omega⟩
  · injection e1 with e1 _ e3
    subst e1 e3
    exact ⟨fun h => (by cases h), hc⟩
theorem rdK_at {w : World} {B : Nat} {A : Option Addr} {xs : List Tok} (h : Rd w B A (ct xs)) {k : Nat} (hk : k < xs.length) {kd : Nat} {wd : List UInt8} {nm : Int} {at_ : Nat} (hx : xs[k] = (kd, wd, nm, at_)) :
    ∃ b off, A = some ⟨b, off, none⟩ ∧ b < B ∧ w.cell? ⟨b, off + k * 4, none⟩ = some (.int .i64 (kd : Int)) ∧ w.cell? ⟨b, off + k * 4 + 1, none⟩ = some (.string ⟨wd.toArray⟩) ∧ w.cell? ⟨b, off + k * 4 + 2, none⟩ = some (.int .i64 nm) ∧ w.cell? ⟨b, off + k * 4 + 3, none⟩ = some (.int .i64 (at_ : Int)) := by
  rcases h with h | ⟨b, off, rfl, hb, hc⟩
  · have := congrArg List.length h
    rw [ct_len] at this
    simp only [List.length_nil] at this
    omega
  · obtain ⟨h0, h1, h2, h3⟩ := ct_at xs k hk
    rw [hx] at h0 h1 h2 h3
    rw [Nat.mul_comm k 4]
    exact ⟨b, off, rfl, hb, hc _ _ h0, hc _ _ h1, hc _ _ h2, hc _ _ h3⟩
theorem allW_at {s : ByteArray} {p : Nat} {l : List Tok} (hp : p ≤ s.size) (h : allW s p = .inl l) : ∀ x ∈ l, p ≤ x.2.2.2 ∧ x.2.2.2 ≤ s.size := by
  obtain ⟨m, hm⟩ : ∃ m, s.size - p = m := ⟨_, rfl⟩
  induction m using Nat.strongRecOn generalizing p l with
  | _ m ih =>
    cases ht : tokR s p with
    | inr e => rw [allW_no ht] at h; cases h
    | inl x =>
      obtain ⟨k, t, n, q, p'⟩ := x
      have hin := tokR_in hp ht
      obtain ⟨hg1, hg2⟩ := tokR_go hp ht
      by_cases hk : k = 0
      · subst hk
        rw [allW_end ht] at h
        injection h with h
        intro x hx
        rw [← h, List.mem_singleton] at hx
        subst hx
        exact ⟨hg1, by show q ≤ _; omega⟩
      · have h1 := allW_go hp hin ht hk []
        rw [preW_nil, h] at h1
        cases hy : allW s p' with
        | inr e => rw [hy] at h1; cases h1.2
        | inl l' =>
          rw [hy] at h1
          have h2 := ih (s.size - p') (by have := h1.1; omega) hin hy rfl
          have h3 : l = (k, t, n, q) :: l' := by
            have := h1.2
            injection this
          intro x hx
          rw [h3] at hx
          rcases List.mem_cons.1 hx with rfl | hx
          · exact ⟨hg1, by show q ≤ _; omega⟩
          · have := h2 x hx
            have := h1.1
            exact ⟨by omega, by omega⟩
/-- the two lists' tokens at a place -/
theorem joins_at {x y : List Tok} {d k : Nat} (hk : k < (x ++ y).length) :
    ∃ kd wd nm at_, ∃ h : k < (x ++ y.map (atK d)).length, (x ++ y)[k] = (kd, wd, nm, at_) ∧ ((k < x.length ∧ (x ++ y.map (atK d))[k] = (kd, wd, nm, at_)) ∨ (x.length ≤ k ∧ (kd, wd, nm, at_) ∈ y ∧ (x ++ y.map (atK d))[k] = (kd, wd, nm, d + at_))) := by
  have h2 : k < (x ++ y.map (atK d)).length := by simpa using hk
  obtain ⟨kd, wd, nm, at_, he⟩ : ∃ kd wd nm at_, (x ++ y)[k] = (kd, wd, nm, at_) := ⟨_, _, _, _, rfl⟩
  refine ⟨kd, wd, nm, at_, h2, he, ?_⟩
  by_cases hx : k < x.length
  · left
    refine ⟨hx, ?_⟩
    rw [List.getElem_append_left hx] at he ⊢
    exact he
  · right
    rw [List.getElem_append_right (by omega)] at he
    refine ⟨by omega, he ▸ List.getElem_mem _, ?_⟩
    rw [List.getElem_append_right (by omega), List.getElem_map, he]
    rfl
theorem eq_same (k n q : Int) (t : ByteArray) (w : World) : (Op.equalIn 10000 30 (.agg #[.int .i64 k, .string t, .int .i64 n, .int .i64 q]) (.agg #[.int .i64 k, .string t, .int .i64 n, .int .i64 q])).run Tryz.prog w = .ok true w := by
  rw [eq_tok]; simp
end Go.Proofs.YtakijeooaeflkaaGreatDoor.Fl
