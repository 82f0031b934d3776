/-
  A slice of the document's tokens that came in.
-/
import Derived.Test.YtmdkneollidkfaaGreatDoorLyP
import Derived.Test.YtmdkneollidkfaaGreatDoorRows
import Derived.Deep.SlicePairs
import Derived.ChangeArms
namespace Go.Proofs.YtmdkneollidkfaaGreatDoor.Fl
open Go.RowKit Go.ChangeShapes Go.WideShapes

/-- a token, whatever its numbers -/
abbrev RTok := Int × ByteArray × Int × Int
def cr : List RTok → List Value
  | [] => []
  | x :: l => .int .i64 x.1 :: .string x.2.1 :: .int .i64 x.2.2.1 :: .int .i64 x.2.2.2 :: cr l
theorem cr_len : ∀ l : List RTok, (cr l).length = l.length * 4
  | [] => rfl
  | x :: l => by simp only [cr, List.length_cons, cr_len l]; omega
theorem cr_app : ∀ l m : List RTok, cr (l ++ m) = cr l ++ cr m
  | [], _ => rfl
  | x :: l, m => by simp only [List.cons_append, cr, cr_app l m]
def tokOk (l : List RTok) : Prop := ∀ x ∈ l, (-9223372036854775808 ≤ x.1 ∧ x.1 ≤ 9223372036854775807) ∧ (-9223372036854775808 ≤ x.2.2.1 ∧ x.2.2.1 ≤ 9223372036854775807) ∧ -9223372036854775808 ≤ x.2.2.2 ∧ x.2.2.2 ≤ 9223372036854775807
theorem wf_bdT {t : Int} (h : (Lit.int .i64 t).wf = true) : -9223372036854775808 ≤ t ∧ t ≤ 9223372036854775807 := by
  have h1 := h
  simp [Lit.wf, IntKind.min, IntKind.max, IntKind.signed, IntKind.bits] at h1
  omega
/-! ### how much a reading holds -/
theorem bulk_in {H : Type} {d : DataW H} : ∀ {l : List (DataW H)}, d ∈ l → Rows.uptoBulk d ≤ Rows.uptoBulkAll l
  | [], h => by cases h
  | y :: l, h => by
    rw [Rows.uptoBulkAll]
    rcases List.mem_cons.1 h with rfl | h
    · omega
    · have := bulk_in h
      omega
theorem bulk_agg {H : Type} {d : DataW H} {l : List (DataW H)} (h : d ∈ l) : Rows.uptoBulk d ≤ Rows.uptoBulk (.agg l) := by
  have := bulk_in h
  rw [Rows.uptoBulk]
  omega
theorem bulk_slice {H : Type} {d : DataW H} {l m : List (DataW H)} (h : d ∈ l) : Rows.uptoBulk d ≤ Rows.uptoBulk (.slice l m) := by
  have := bulk_in h
  rw [Rows.uptoBulk]
  omega
theorem bulk_str {H : Type} (l : List UInt8) : Rows.uptoBulk (DataW.lit (H := H) (.string l)) = l.length + 1 := by rw [Rows.uptoBulk]
def ToksRow (w : World) (B : Nat) (A : Option Addr) (len M : Nat) : Prop := ∀ k, k < len → ∃ (b off : Nat) (t i j : Int) (s : ByteArray), A = some ⟨b, off, none⟩ ∧ b < B ∧
  w.cell? ⟨b, off + k * 4, none⟩ = some (.int .i64 t) ∧ w.cell? ⟨b, off + k * 4 + 1, none⟩ = some (.string s) ∧ w.cell? ⟨b, off + k * 4 + 2, none⟩ = some (.int .i64 i) ∧ w.cell? ⟨b, off + k * 4 + 3, none⟩ = some (.int .i64 j) ∧ (Lit.int .i64 t).wf = true ∧ (Lit.int .i64 i).wf = true ∧ (Lit.int .i64 j).wf = true ∧ s.size ≤ M
theorem toksRow_rd {w : World} {B : Nat} {A : Option Addr} {len M : Nat} (h : ToksRow w B A len M) : ∃ xs : List RTok, xs.length = len ∧ Rd w B A (cr xs) ∧ tokOk xs ∧ ∀ x ∈ xs, x.2.1.size ≤ M := by
  rcases Nat.eq_zero_or_pos len with rfl | hp
  · exact ⟨[], rfl, .inl rfl, (fun x hx => by cases hx), fun x hx => by cases hx⟩
  · obtain ⟨b, off, _, _, _, _, rfl, hb, _⟩ := h 0 hp
    have hn : ∀ n, n ≤ len → ∃ xs : List RTok, xs.length = n ∧ (∀ j v, (cr xs)[j]? = some v → w.cell? ⟨b, off + j, none⟩ = some v) ∧ tokOk xs ∧ ∀ x ∈ xs, x.2.1.size ≤ M := by
      intro n
      induction n with
      | zero => exact fun _ => ⟨[], rfl, (fun j v hj => by simp [cr] at hj), (fun x hx => by cases hx), fun x hx => by cases hx⟩
      | succ n ih =>
        intro hn
        obtain ⟨xs, hl, hc, ho, hz⟩ := ih (by omega)
        obtain ⟨b', off', t, i, j, s, e, _, c0, c1, c2, c3, w0, w1, w2, wz⟩ := h n (by omega)
        cases e
        refine ⟨xs ++ [(t, s, i, j)], by simp [hl], fun q v hq => ?_, fun x hx => ?_, fun x hx => ?_⟩
        · rw [cr_app] at hq
          rcases Nat.lt_or_ge q (cr xs).length with h1 | h1
          · rw [List.getElem?_append_left h1] at hq
            exact hc q v hq
          · rw [List.getElem?_append_right h1] at hq
            rw [cr_len, hl] at hq h1
            obtain ⟨m, rfl⟩ : ∃ m, q = n * 4 + m := ⟨q - n * 4, by omega⟩
            rw [Nat.add_sub_cancel_left] at hq
            have hq' : [Value.int .i64 t, .string s, .int .i64 i, .int .i64 j][m]? = some v := hq
            rcases m with _ | _ | _ | _ | m
            · exact c0.trans hq'
            · exact c1.trans hq'
            · exact c2.trans hq'
            · exact c3.trans hq'
            · simp at hq'
        · rcases List.mem_append.1 hx with h1 | h1
          · exact ho x h1
          · obtain rfl := List.mem_singleton.1 h1
            exact ⟨wf_bdT w0, wf_bdT w1, wf_bdT w2⟩
        · rcases List.mem_append.1 hx with h1 | h1
          · exact hz x h1
          · obtain rfl := List.mem_singleton.1 h1
            exact wz
    obtain ⟨xs, hl, hc, ho, hz⟩ := hn len (Nat.le_refl _)
    exact ⟨xs, hl, .inr ⟨b, off, rfl, hb, hc⟩, ho, hz⟩
theorem crR_at {w : World} {B : Nat} {A : Option Addr} {xs : List RTok} (h : Rd w B A (cr xs)) {k : Nat} (hk : k < xs.length) :
    ∃ b off, A = some ⟨b, off, none⟩ ∧ b < B ∧ w.cell? ⟨b, off + k * 4, none⟩ = some (.int .i64 xs[k].1) ∧ w.cell? ⟨b, off + k * 4 + 1, none⟩ = some (.string xs[k].2.1) ∧ w.cell? ⟨b, off + k * 4 + 2, none⟩ = some (.int .i64 xs[k].2.2.1) ∧ w.cell? ⟨b, off + k * 4 + 3, none⟩ = some (.int .i64 xs[k].2.2.2) := by
  rcases h with h | ⟨b, off, rfl, hb, hc⟩
  · have := congrArg List.length h
    rw [cr_len] at this
    simp only [List.length_nil] at this
    omega
  · have hat : ∀ (l : List RTok) (k : Nat) (h : k < l.length), (cr l)[k * 4]? = some (.int .i64 l[k].1) ∧ (cr l)[k * 4 + 1]? = some (.string l[k].2.1) ∧ (cr l)[k * 4 + 2]? = some (.int .i64 l[k].2.2.1) ∧ (cr l)[k * 4 + 3]? = some (.int .i64 l[k].2.2.2) := by
      intro l
      induction l with
      | nil => intro k h; exact absurd h (Nat.not_lt_zero _)
      | cons x l ih =>
        intro k h
        cases k with
        | zero => exact ⟨rfl, rfl, rfl, rfl⟩
        | succ k =>
          have := ih k (by simpa using h)
          rw [show (k + 1) * 4 = k * 4 + 1 + 1 + 1 + 1 by omega, show k * 4 + 1 + 1 + 1 + 1 + 1 = (k * 4 + 1) + 1 + 1 + 1 + 1 by omega, show k * 4 + 1 + 1 + 1 + 1 + 2 = (k * 4 + 2) + 1 + 1 + 1 + 1 by omega, show k * 4 + 1 + 1 + 1 + 1 + 3 = (k * 4 + 3) + 1 + 1 + 1 + 1 by omega]
          simp only [cr, List.getElem?_cons_succ, List.getElem_cons_succ]
          exact this
    obtain ⟨h0, h1, h2, h3⟩ := hat xs k hk
    exact ⟨b, off, rfl, hb, hc _ _ h0, hc _ _ h1, hc _ _ h2, hc _ _ h3⟩
end Go.Proofs.YtmdkneollidkfaaGreatDoor.Fl
