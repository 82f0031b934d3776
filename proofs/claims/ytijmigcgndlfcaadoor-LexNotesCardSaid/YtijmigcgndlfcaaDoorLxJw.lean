/-
  LexJoins where one of the two texts is refused.
-/
import Derived.Test.YtijmigcgndlfcaaDoorLxSh
namespace Go.Proofs.YtijmigcgndlfcaaDoor.Fl
open Go.RowKit

theorem max_below {w w' : World} (h : MaxAt w) (hb : Below w.heap.size w w') : MaxAt w' := by
  obtain ⟨m, hm⟩ := h
  exact ⟨m, (World.cell?_of_block (a := ⟨0, 0, none⟩) (hb.block 0 (World.block_lt_of_cell? _ _ hm))).trans hm⟩
theorem allW_err : ∀ {s : ByteArray} {p q : Nat} {n : Int}, allW s p = .inr (n, q) → n ≠ 0 := by
  intro s p q n h
  obtain ⟨m, hm⟩ : ∃ m, s.size - p = m := ⟨_, rfl⟩
  induction m using Nat.strongRecOn generalizing p with
  | _ m ih =>
    rw [allW.eq_def] at h
    split at h
    · next e he =>
      injection h with h
      subst h
      exact tokR_err he
    · next k t n' q' p' he =>
      split at h
      · cases h
      · split at h
        · next hc =>
          split at h
          · cases h
          · next e' he' =>
            injection h with h
            subst h
            exact ih _ (by omega) he' rfl
        · cases h
set_option maxRecDepth 100000 in
set_option maxHeartbeats 4000000 in
theorem lexJoins_a (a b : ByteArray) (w : World) (hm : MaxAt w) (hE : ∀ w', Below w.heap.size w w' → EnvL w') (n : Int) (q : Nat) (hn : allW (shortB a 1000) 0 = .inr (n, q)) :
    Calls Tryd.prog 5 #[.string a, .string b] w fun e w' => e = .returned (.bool true) ∧ Below w.heap.size w w' := by
  have haw := awake9_any w hm hE
  have hsa : ∀ w, Calls Tryd.prog 8 #[.string a, .int .i64 1000] w fun e w' => e = .returned (.string (shortB a 1000)) ∧ w' = w := fun w => short9_any a 1000 w
  have hsb : ∀ w, Calls Tryd.prog 8 #[.string b, .int .i64 1000] w fun e w' => e = .returned (.string (shortB b 1000)) ∧ w' = w := fun w => short9_any b 1000 w
  have hla := shortB_size a 1000
  have hlb := shortB_size b 1000
  generalize shortB a 1000 = a' at *
  generalize shortB b 1000 = b' at *
  have hn0 := allW_err hn
  have HA := Lib.hid (fun w' (h : Below w.heap.size w w') => all_any a' w' (by omega) (max_below hm h) (fun w2 h2 => hE w2 (h.trans (h2.mono h.size))))
  have HBb := Lib.hid (fun w' (h : Below w.heap.size w w') => all_any b' w' (by omega) (max_below hm h) (fun w2 h2 => hE w2 (h.trans (h2.mono h.size))))
  have HN := Lib.hid hn
  clear hm hE hn
  go_enter Tryd.func5, Tryd.ntmps5
  go_wp2_with fail
  refine haw.mono ?_
  rintro e w1 ⟨rfl, hb1⟩
  have HB1 := Lib.hid hb1
  clear haw hb1
  go_wp2_with fail
  refine (hsa w1).mono ?_
  rintro e w' ⟨rfl, rfl⟩
  go_wp2_with fail
  refine (hsb _).mono ?_
  rintro e w' ⟨rfl, rfl⟩
  go_wp2_with fail
  refine (HA.out _ HB1.out).mono ?_
  rintro e w2 ⟨hb2, (⟨l, A, c, hl, _⟩ | ⟨n2, q2, hl, _, rfl⟩)⟩
  · rw [HN.out] at hl
    cases hl
  rw [HN.out] at hl
  injection hl with hl
  injection hl with hl1 hl2
  subst hl1 hl2
  have HB2 := Lib.hid (HB1.out.trans (hb2.mono HB1.out.size))
  clear hb2
  go_wp2_with fail
  refine (HBb.out _ HB2.out).mono ?_
  rintro e w3 ⟨hb3, (⟨l, A, c, hl, rfl, _⟩ | ⟨n3, q3, hl, _, rfl⟩)⟩
  · have HB3 := Lib.hid (HB2.out.trans (hb3.mono HB2.out.size))
    clear hb3
    go_wp2_with fail
    go_ret
    exact ⟨rfl, HB3.out⟩
  · have HB3 := Lib.hid (HB2.out.trans (hb3.mono HB2.out.size))
    clear hb3
    go_wp2_with fail
    go_ret
    exact ⟨rfl, HB3.out⟩
theorem joins_err {a b : ByteArray} {x : List Tok} {n : Int} {q : Nat} (hx : allW a 0 = .inl x) (hy : allW b 0 = .inr (n, q)) : allW (a ++ ⟨#[32]⟩ ++ b) 0 = .inr (n, a.size + 1 + q) := by
  obtain ⟨x', t, m, _, hs⟩ := joins (sb_blank a b) hx
  rw [hs, hy]
  rfl
theorem blank_size (a b : ByteArray) : (a ++ ⟨#[32]⟩ ++ b).size = a.size + 1 + b.size := by
  have h := sb_len (a ++ ⟨#[32]⟩ ++ b)
  rw [sb_blank, List.length_append, List.length_cons, sb_len, sb_len] at h
  omega
set_option maxRecDepth 100000 in
set_option maxHeartbeats 4000000 in
theorem lexJoins_b (a b : ByteArray) (w : World) (hm : MaxAt w) (hE : ∀ w', Below w.heap.size w w' → EnvL w') (x : List Tok) (n : Int) (q : Nat) (hx : allW (shortB a 1000) 0 = .inl x) (hy : allW (shortB b 1000) 0 = .inr (n, q)) :
    Calls Tryd.prog 5 #[.string a, .string b] w fun e w' => e = .returned (.bool true) ∧ Below w.heap.size w w' := by
  have haw := awake9_any w hm hE
  have hsa : ∀ w, Calls Tryd.prog 8 #[.string a, .int .i64 1000] w fun e w' => e = .returned (.string (shortB a 1000)) ∧ w' = w := fun w => short9_any a 1000 w
  have hsb : ∀ w, Calls Tryd.prog 8 #[.string b, .int .i64 1000] w fun e w' => e = .returned (.string (shortB b 1000)) ∧ w' = w := fun w => short9_any b 1000 w
  have hla := shortB_size a 1000
  have hlb := shortB_size b 1000
  generalize shortB a 1000 = a' at *
  generalize shortB b 1000 = b' at *
  have hn0 := allW_err hy
  have HA := Lib.hid (fun w' (h : Below w.heap.size w w') => all_any a' w' (by omega) (max_below hm h) (fun w2 h2 => hE w2 (h.trans (h2.mono h.size))))
  have HBb := Lib.hid (fun w' (h : Below w.heap.size w w') => all_any b' w' (by omega) (max_below hm h) (fun w2 h2 => hE w2 (h.trans (h2.mono h.size))))
  have HZ := Lib.hid (fun w' (h : Below w.heap.size w w') => all_any (a' ++ ⟨#[32]⟩ ++ b') w' (by rw [blank_size]; omega) (max_below hm h) (fun w2 h2 => hE w2 (h.trans (h2.mono h.size))))
  have HX := Lib.hid hx
  have HY := Lib.hid hy
  have HN := Lib.hid (joins_err hx hy)
  clear hm hE hx hy
  go_enter Tryd.func5, Tryd.ntmps5
  go_wp2_with fail
  refine haw.mono ?_
  rintro e w1 ⟨rfl, hb1⟩
  have HB1 := Lib.hid hb1
  clear haw hb1
  go_wp2_with fail
  refine (hsa w1).mono ?_
  rintro e w' ⟨rfl, rfl⟩
  go_wp2_with fail
  refine (hsb _).mono ?_
  rintro e w' ⟨rfl, rfl⟩
  go_wp2_with fail
  refine (HA.out _ HB1.out).mono ?_
  rintro e w2 ⟨hb2, (⟨l, A, c, hl, rfl, _⟩ | ⟨n2, q2, hl, _⟩)⟩
  case inr => rw [HX.out] at hl; cases hl
  have HB2 := Lib.hid (HB1.out.trans (hb2.mono HB1.out.size))
  clear hb2 hl
  go_wp2_with fail
  refine (HBb.out _ HB2.out).mono ?_
  rintro e w3 ⟨hb3, (⟨l3, A3, c3, hl, _⟩ | ⟨n3, q3, hl, _, rfl⟩)⟩
  · rw [HY.out] at hl; cases hl
  rw [HY.out] at hl
  injection hl with hl
  injection hl with hl1 hl2
  subst hl1 hl2
  have HB3 := Lib.hid (HB2.out.trans (hb3.mono HB2.out.size))
  clear hb3
  go_wp2_with fail
  refine (HZ.out _ HB3.out).mono ?_
  rintro e w4 ⟨hb4, (⟨l4, A4, c4, hl, _⟩ | ⟨n4, q4, hl, _, rfl⟩)⟩
  · rw [HN.out] at hl; cases hl
  rw [HN.out] at hl
  injection hl with hl
  injection hl with hl1 hl2
  subst hl1 hl2
  have HB4 := Lib.hid (HB3.out.trans (hb4.mono HB3.out.size))
  clear hb4
  go_wp2_with fail
  go_ret
  exact ⟨rfl, HB4.out⟩
end Go.Proofs.YtijmigcgndlfcaaDoor.Fl
