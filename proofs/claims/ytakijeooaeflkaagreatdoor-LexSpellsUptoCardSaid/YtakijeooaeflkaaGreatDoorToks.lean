/-
  A slice of the document's tokens that came in.
-/
import Derived.Test.YtakijeooaeflkaaGreatDoorLyP
import Derived.Test.YtakijeooaeflkaaGreatDoorRows
import Derived.Deep.SlicePairs
import Derived.ChangeArms
namespace Go.Proofs.YtakijeooaeflkaaGreatDoor.Fl
open Go.RowKit Go.ChangeShapes Go.WideShapes

/-- a token, whatever its numbers -/
abbrev RTok := Int × ByteArray × Int × Int
def cr : List RTok → List Value
  | [] => []
  | x :: l => .int .i64 x.1 :: .string x.2.1 :: .int .i64 x.2.2.1 :: .int .i64 x.2.2.2 :: cr l
theorem cr_len : ∀ l : List RTok, (cr l).length = l.length * 4
  | [] => rfl
  | x :: l => by simp only [cr, List.length_cons, cr_len l]; omega
theorem cr_app : ∀ l m : List RTok, cr (l ++ m) = cr l ++ cr m
  | [], _ => rfl
  | x :: l, m => by simp only [List.cons_append, cr, cr_app l m]
def tokOk (l : List RTok) : Prop := ∀ x ∈ l, (-9223372036854775808 ≤ x.1 ∧ x.1 ≤ 9223372036854775807) ∧ (-9223372036854775808 ≤ x.2.2.1 ∧ x.2.2.1 ≤ 9223372036854775807) ∧ -9223372036854775808 ≤ x.2.2.2 ∧ x.2.2.2 ≤ 9223372036854775807
theorem wf_bdT {t : Int} (h : (Lit.int .i64 t).wf = true) : -9223372036854775808 ≤ t ∧ t ≤ 9223372036854775807 := by
  have h1 := h
  simp [Lit.wf, IntKind.min, IntKind.max, IntKind.signed, IntKind.bits] at h1
  omega
/-! ### how much a reading holds -/
theorem bulk_in {H : Type} {d : DataW H} : ∀ {l : List (DataW H)}, d ∈ l → Rows.uptoBulk d ≤ Rows.uptoBulkAll l
  | [], h => by cases h
  | y :: l, h => by
    rw [Rows.uptoBulkAll]
    rcases List.mem_cons.1 h with rfl | h
    · omega
    · have := bulk_in h
      omega
theorem bulk_agg {H : Type} {d : DataW H} {l : List (DataW H)} (h : d ∈ l) : Rows.uptoBulk d ≤ Rows.uptoBulk (.agg l) := by
  have := bulk_in h
  rw [Rows.uptoBulk]
  omega
theorem bulk_slice {H : Type} {d : DataW H} {l m : List (DataW H)} (h : d ∈ l) : Rows.uptoBulk d ≤ Rows.uptoBulk (.slice l m) := by
  have := bulk_in h
  rw [Rows.uptoBulk]
  omega
theorem bulk_str {H : Type} (l : List UInt8) : Rows.uptoBulk (DataW.lit (H := H) (.string l)) = l.length + 1 := by rw [Rows.uptoBulk]
def ToksRow (w : World) (B : Nat) (A : Option Addr) (len M : Nat) : Prop := ∀ k, k < len → ∃ (b off : Nat) (t i j : Int) (s : ByteArray), A = some ⟨b, off, none⟩ ∧ b < B ∧
  w.cell? ⟨b, off + k * 4, none⟩ = some (.int .i64 t) ∧ w.cell? ⟨b, off + k * 4 + 1, none⟩ = some (.string s) ∧ w.cell? ⟨b, off + k * 4 + 2, none⟩ = some (.int .i64 i) ∧ w.cell? ⟨b, off + k * 4 + 3, none⟩ = some (.int .i64 j) ∧ (Lit.int .i64 t).wf = true ∧ (Lit.int .i64 i).wf = true ∧ (Lit.int .i64 j).wf = true ∧ s.size ≤ M
theorem toksRow_rd {w : World} {B : Nat} {A : Option Addr} {len M : Nat} (h : ToksRow w B A len M) : ∃ xs : List RTok, xs.length = len ∧ Rd w B A (cr xs) ∧ tokOk xs ∧ ∀ x ∈ xs, x.2.1.size ≤ M := by
  rcases Nat.eq_zero_or_pos len with rfl | hp
  · exact ⟨[], rfl, .inl rfl, (fun x hx => by cases hx), fun x hx => by cases hx⟩
  · obtain ⟨b, off, _, _, _, _, rfl, hb, _⟩ := h 0 hp
    have hn : ∀ n, n ≤ len → ∃ xs : List RTok, xs.length = n ∧ (∀ j v, (cr xs)[j]? = some v → w.cell? ⟨b, off + j, none⟩ = some v) ∧ tokOk xs ∧ ∀ x ∈ xs, x.2.1.size ≤ M := by
      intro n
      induction n with
      | zero => exact fun _ => ⟨[], rfl, (fun j v hj => by simp [cr] at hj), (fun x hx => by cases hx), fun x hx => by cases hx⟩
      | succ n ih =>
        intro hn
        obtain ⟨xs, hl, hc, ho, hz⟩ := ih (by omega)
        obtain ⟨b', off', t, i, j, s, e, _, c0, c1, c2, c3, w0, w1, w2, wz⟩ := h n (by omega)
        cases e
        refine ⟨xs ++ [(t, s, i, j)], by simp [hl], fun q v hq => ?_, fun x hx => ?_, fun x hx => ?_⟩
        · rw [cr_app] at hq
          rcases Nat.lt_or_ge q (cr xs).length with h1 | h1
          · rw [List.getElem?_append_left h1] at hq
            exact hc q v hq
          · rw [List.getElem?_append_right h1] at hq
            rw [cr_len, hl] at hq h1
            obtain ⟨m, rfl⟩ : ∃ m, q = n * 4 + m := ⟨q - n * 4, by omega⟩
            rw [Nat.add_sub_cancel_left] at hq
            have hq' : [Value.int .i64 t, .string s, .int .i64 i, .int .i64 j][m]? = some v := hq
            rcases m with _ | _ | _ | _ | m
            · exact c0.trans hq'
            · exact c1.trans hq'
            · exact c2.trans hq'
            · exact c3.trans hq'
            · simp at hq'
        · rcases List.mem_append.1 hx with h1 | h1
          · exact ho x h1
          · obtain rfl := List.mem_singleton.1 h1
            exact ⟨wf_bdT w0, wf_bdT w1, wf_bdT w2⟩
        · rcases List.mem_append.1 hx with h1 | h1
          · exact hz x h1
          · obtain rfl := List.mem_singleton.1 h1
            exact wz
    obtain ⟨xs, hl, hc, ho, hz⟩ := hn len (Nat.le_refl _)
    exact ⟨xs, hl, .inr ⟨b, off, rfl, hb, hc⟩, ho, hz⟩
theorem crR_at {w : World} {B : Nat} {A : Option Addr} {xs : List RTok} (h : Rd w B A (cr xs)) {k : Nat} (hk : k < xs.length) :
    ∃ b off, A = some ⟨b, off, none⟩ ∧ b < B ∧ w.cell? ⟨b, off + k * 4, none⟩ = some (.int .i64 xs[k].1) ∧ w.cell? ⟨b, off + k * 4 + 1, none⟩ = some (.string xs[k].2.1) ∧ w.cell? ⟨b, off + k * 4 + 2, none⟩ = some (.int .i64 xs[k].2.2.1) ∧ w.cell? ⟨b, off + k * 4 + 3, none⟩ = some (.int .i64 xs[k].2.2.2) := by
  rcases h with h | ⟨b, off, rfl, hb, hc⟩
  · have := congrArg List.length h
    rw [cr_len] at this
    simp only [List.length_nil] at this
    omega
  · have hat : ∀ (l : List RTok) (k : Nat) (h : k < l.length), (cr l)[k * 4]? = some (.int .i64 l[k].1) ∧ (cr l)[k * 4 + 1]? = some (.string l[k].2.1) ∧ (cr l)[k * 4 + 2]? = some (.int .i64 l[k].2.2.1) ∧ (cr l)[k * 4 + 3]? = some (.int .i64 l[k].2.2.2) := by
      intro l
      induction l with
      | nil => intro k h; exact absurd h (Nat.not_lt_zero _)
      | cons x l ih =>
        intro k h
        cases k with
        | zero => exact ⟨rfl, rfl, rfl, rfl⟩
        | succ k =>
          have := ih k (by simpa using h)
          rw [show (k + 1) * 4 = k * 4 + 1 + 1 + 1 + 1 by omega, show k * 4 + 1 + 1 + 1 + 1 + 1 = (k * 4 + 1) + 1 + 1 + 1 + 1 by omega, show k * 4 + 1 + 1 + 1 + 1 + 2 = (k * 4 + 2) + 1 + 1 + 1 + 1 by omega, show k * 4 + 1 + 1 + 1 + 1 + 3 = (k * 4 + 3) + 1 + 1 + 1 + 1 by omega]
          simp only [cr, List.getElem?_cons_succ, List.getElem_cons_succ]
          exact this
    obtain ⟨h0, h1, h2, h3⟩ := hat xs k hk
    exact ⟨b, off, rfl, hb, hc _ _ h0, hc _ _ h1, hc _ _ h2, hc _ _ h3⟩
set_option maxRecDepth 100000 in
theorem open_toks {H : Type} {enc : TypeId × Value → H} {w : World} {base : Nat} {spare : Nat → Bool} {held : Bool} {A : Option Addr} {len cap : Nat} {d : DataW H} {p : List MemPlace}
    (h : DataW.Trod enc Tryz.prog w base spare held 22 (.slice A len cap) d p) : ∃ xs : List RTok, xs.length = len ∧ Rd w w.heap.size A (cr xs) ∧ tokOk xs ∧ (∀ x ∈ xs, x.2.1.size ≤ Rows.uptoBulk d) ∧ len ≤ cap ∧ cap ≤ maxLen := by
  suffices hh : ToksRow w w.heap.size A len (Rows.uptoBulk d) ∧ len ≤ cap ∧ cap ≤ maxLen by
    obtain ⟨xs, h1, h2, h3, h4⟩ := toksRow_rd hh.1
    exact ⟨xs, h1, h2, h3, h4, hh.2.1, hh.2.2⟩
  obtain ⟨fuel, hf⟩ := h
  rcases Deep.open_slice Tryz.underlying22 hf with ⟨hcs, _⟩ | ⟨a, l, c, m, n, D, Pl, hcs, hb, hl, hm, hmm, hdd, hx⟩
  · simp [Value.cells] at hcs
    obtain ⟨rfl, rfl, rfl⟩ := hcs
    exact ⟨fun k hk => by omega, Nat.le_refl _, by unfold maxLen; omega⟩
  · simp [Value.cells] at hcs
    obtain ⟨rfl, rfl, rfl⟩ := hcs
    refine ⟨fun k hk => ?_, hl, hm⟩
    have hkm : k < m := by rw [hmm]; split <;> omega
    have ce : Tryz.prog.cellsOf 25 = 4 := by kernel_rfl
    have c0 : Tryz.prog.cellsOf 3 = 1 := by kernel_rfl
    have c1 : Tryz.prog.cellsOf 9 = 1 := by kernel_rfl
    have c2 : Tryz.prog.cellsOf 2 = 1 := by kernel_rfl
    obtain ⟨cs', h1, h2⟩ := hx k hkm
    rw [ce] at h1
    obtain ⟨_, hlen, hcell⟩ := World.cells?_some h1
    obtain ⟨xs, q, hq, hxy, _, hxl, hfl⟩ := DataW.trod_struct Tryz.underlying25 h2
    match xs, hxl, cs', hlen with
    | [y0, y1, y2, y3], _, [v0, v1, v2, v3], _ =>
      have g0 := hfl 0 _ rfl
      have g1 := hfl 1 _ rfl
      have g2 := hfl 2 _ rfl
      have g3 := hfl 3 _ rfl
      simp [c0, c1, c2] at g0 g1 g2 g3
      obtain ⟨t, ht, _, ht2⟩ := DataW.trod_int Tryz.underlying3 g0
      obtain ⟨s, hs, hsd, _⟩ := DataW.trod_string Tryz.underlying9 g1
      obtain ⟨i, hi, _, hi2⟩ := DataW.trod_int Tryz.underlying2 g2
      obtain ⟨j, hj, _, hj2⟩ := DataW.trod_int Tryz.underlying3 g3
      simp at ht hs hi hj
      subst ht hs hi hj
      have hbk : s.size ≤ Rows.uptoBulk d := by
        have hd1 := congrArg Prod.fst hdd
        have hD := congrArg Prod.fst hxy
        simp only [List.map_cons, List.map_nil] at hd1 hD
        have e1 : Rows.uptoBulk y1.1 = s.size + 1 := by rw [hsd]; show Rows.uptoBulk (DataW.lit (Lit.string s.data.toList)) = _; rw [bulk_str]; simp
        have e2 : Rows.uptoBulk y1.1 ≤ Rows.uptoBulk (D k) := by rw [hD]; exact bulk_agg (by simp)
        have e3 : Rows.uptoBulk (D k) ≤ Rows.uptoBulk d := by rw [hd1]; exact bulk_slice (List.mem_map.2 ⟨k, List.mem_range.2 hk, rfl⟩)
        omega
      have e0 := hcell 0 (by omega)
      have e1 := hcell 1 (by omega)
      have e2 := hcell 2 (by omega)
      have e3 := hcell 3 (by omega)
      obtain ⟨b, off, spot⟩ := a
      have hspot : spot = none := by
        obtain ⟨cs0, h10, _⟩ := hx 0 (by omega)
        rw [ce] at h10
        obtain ⟨_, hl0, hc0⟩ := World.cells?_some h10
        have e1 := hc0 0 (by omega)
        rw [List.getElem?_eq_getElem (by omega)] at e1
        have e := World.cell?_spot e1
        simpa [Addr.add] using e
      subst hspot
      have pl : ∀ x n : Nat, (⟨b, x, none⟩ : Addr).add n = ⟨b, x + n, none⟩ := fun x n => by unfold Addr.add; split <;> simp_all
      rw [pl, pl] at e0 e1 e2 e3
      refine ⟨b, off, t, i, j, s, rfl, World.block_lt_of_cell? w _ e0, ?_, ?_, ?_, ?_, ht2, hi2, hj2, hbk⟩
      · simpa using e0
      · simpa [Nat.add_assoc] using e1
      · simpa [Nat.add_assoc] using e2
      · simpa [Nat.add_assoc] using e3
end Go.Proofs.YtakijeooaeflkaaGreatDoor.Fl
