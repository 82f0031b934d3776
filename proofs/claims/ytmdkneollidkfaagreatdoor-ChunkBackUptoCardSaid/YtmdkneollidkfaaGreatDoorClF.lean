/-
  A unit of the document's that came in: its classes and its texts, in memory; how long they are.
-/
import Derived.Test.YtmdkneollidkfaaGreatDoorClE
import Derived.Test.YtmdkneollidkfaaGreatDoorToks
import Derived.Deep.Strs
import Derived.ChangeArms
namespace Go.Proofs.YtmdkneollidkfaaGreatDoor.Fl
open Go.RowKit Go.ChangeShapes Go.WideShapes

/-- a row of parts of four cells each -/
theorem rows4 {α : Type} (f : α → List Value) (hf : ∀ x, (f x).length = 4) (P : α → Prop) {w : World} {B : Nat} {A : Option Addr} {len : Nat}
    (h : ∀ k, k < len → ∃ (b off : Nat) (x : α), A = some ⟨b, off, none⟩ ∧ b < B ∧ (∀ m v, (f x)[m]? = some v → w.cell? ⟨b, off + (k * 4 + m), none⟩ = some v) ∧ P x) :
    ∃ xs : List α, xs.length = len ∧ Rd w B A (xs.flatMap f) ∧ ∀ x ∈ xs, P x := by
  have hlen : ∀ l : List α, (l.flatMap f).length = l.length * 4 := by
    intro l
    induction l with
    | nil => rfl
    | cons x l ih => rw [List.flatMap_cons, List.length_append, ih, hf, List.length_cons]; omega
  rcases Nat.eq_zero_or_pos len with rfl | hp
  · exact ⟨[], rfl, .inl rfl, fun x hx => by cases hx⟩
  · obtain ⟨b, off, _, rfl, hb, _⟩ := h 0 hp
    have hn : ∀ n, n ≤ len → ∃ xs : List α, xs.length = n ∧ (∀ j v, (xs.flatMap f)[j]? = some v → w.cell? ⟨b, off + j, none⟩ = some v) ∧ ∀ x ∈ xs, P x := by
      intro n
      induction n with
      | zero => exact fun _ => ⟨[], rfl, (fun j v hj => by simp at hj), fun x hx => by cases hx⟩
      | succ n ih =>
        intro hn
        obtain ⟨xs, hl, hc, hz⟩ := ih (by omega)
        obtain ⟨b', off', x, e, _, hx, hP⟩ := h n (by omega)
        cases e
        refine ⟨xs ++ [x], by simp [hl], fun q v hq => ?_, fun y hy => ?_⟩
        · rw [List.flatMap_append] at hq
          rcases Nat.lt_or_ge q (xs.flatMap f).length with h1 | h1
          · rw [List.getElem?_append_left h1] at hq
            exact hc q v hq
          · rw [List.getElem?_append_right h1] at hq
            rw [hlen, hl] at hq h1
            have := hx (q - n * 4) v (by simpa using hq)
            rwa [show n * 4 + (q - n * 4) = q by omega] at this
        · rcases List.mem_append.1 hy with h1 | h1
          · exact hz y h1
          · obtain rfl := List.mem_singleton.1 h1
            exact hP
    obtain ⟨xs, hl, hc, hz⟩ := hn len (Nat.le_refl _)
    exact ⟨xs, hl, .inr ⟨b, off, rfl, hb, hc⟩, hz⟩
theorem mkB_sb (s : ByteArray) : mkB (sb s) = s := mk_sb s
set_option maxRecDepth 100000 in
theorem open_fields {H : Type} {enc : TypeId × Value → H} {w : World} {base n : Nat} {spare : Nat → Bool} {held : Bool} {v : Value} {y : DataW H × List MemPlace} {M : Nat}
    (h : DataW.trod enc Tryz.prog w base spare held n 22 [v] = some y) (hM : Rows.uptoBulk y.1 ≤ M) :
    ∃ (A : Option Addr) (c : Nat) (ts : List (List UInt8)), v = .slice A ts.length c ∧ ts.length ≤ c ∧ (A = none → ts.length = 0) ∧ Rd w w.heap.size A (cs_ ts) ∧ (∀ x ∈ ts, x.length ≤ M) ∧ c ≤ maxLen := by
  rcases Deep.open_strs Tryz.underlying22 Tryz.underlying9 (by kernel_rfl) h with ⟨hcs, _⟩ | ⟨a, l, c, m, Sx, hcs, hb, hl, hm, hmm, hd, hx⟩
  · injection hcs with hcs
    exact ⟨none, 0, [], hcs, Nat.le_refl _, fun _ => rfl, .inl rfl, (fun x hx => by cases hx), by unfold maxLen; omega⟩
  · injection hcs with hcs
    refine ⟨some a, c, (List.range l).map (fun i => sb (Sx i)), by rw [hcs]; simp, by simpa using hl, fun h => (by cases h), ?_, ?_, hm⟩
    · by_cases h0 : l = 0
      · subst h0; exact .inl rfl
      obtain ⟨b, off, spot⟩ := a
      have hlm : l ≤ m := by rw [hmm]; split <;> omega
      have hspot : spot = none := by
        have e := World.cell?_spot (hx 0 (by omega)).1
        simpa [Addr.add] using e
      subst hspot
      have pl : ∀ x n : Nat, (⟨b, x, none⟩ : Addr).add n = ⟨b, x + n, none⟩ := fun x n => by unfold Addr.add; split <;> simp_all
      have hx2 : ∀ i, i < m → w.cell? ⟨b, off + i, none⟩ = some (.string (Sx i)) := fun i hi => by rw [← pl]; exact (hx i hi).1
      refine .inr ⟨b, off, rfl, World.block_lt_of_cell? w _ (hx2 0 (by omega)), fun j v hj => ?_⟩
      have hjl : j < l := by
        have := (List.getElem?_eq_some_iff.1 hj).1
        simpa [cs_] using this
      have hv : v = .string (Sx j) := by
        unfold cs_ at hj
        rw [List.getElem?_map, List.getElem?_map, List.getElem?_range hjl] at hj
        simp only [Option.map_some, Option.some.injEq] at hj
        exact hj.symm.trans (congrArg Value.string (mk_sb _))
      rw [hv]
      exact hx2 j (by omega)
    · intro x hx
      obtain ⟨i, hi, rfl⟩ := List.mem_map.1 hx
      have e1 : Rows.uptoBulk (DataW.lit (H := H) (Lit.string (Sx i).data.toList)) = (Sx i).size + 1 := by rw [bulk_str]; simp
      have hd1 := congrArg Prod.fst hd
      have e2 : Rows.uptoBulk (DataW.lit (H := H) (Lit.string (Sx i).data.toList)) ≤ Rows.uptoBulk y.1 := by rw [hd1]; exact bulk_slice (List.mem_map.2 ⟨i, hi, rfl⟩)
      have : (sb (Sx i)).length = (Sx i).size := by simp [sb]
      omega
/-- what is known of a class, and of a text, that came in -/
def ClsIn (w : World) (M : Nat) (x : Cls × Value) : Prop :=
  x.1.1.length ≤ M ∧ x.1.2.1.length ≤ M ∧ (∀ y ∈ x.1.2.2.1, y.length ≤ M) ∧ (-9223372036854775808 ≤ x.1.2.2.2 ∧ x.1.2.2.2 ≤ 9223372036854775807) ∧ ∃ A c, x.2 = .slice A x.1.2.2.1.length c ∧ x.1.2.2.1.length ≤ c ∧ (A = none → x.1.2.2.1.length = 0) ∧ Rd w w.heap.size A (cs_ x.1.2.2.1)
def SrcIn (M : Nat) (x : Src) : Prop := x.1.length ≤ M ∧ x.2.2.1.length ≤ M ∧ (-9223372036854775808 ≤ x.2.2.2 ∧ x.2.2.2 ≤ 9223372036854775807)
set_option maxRecDepth 100000 in
theorem open_classes {H : Type} {enc : TypeId × Value → H} {w : World} {base n : Nat} {spare : Nat → Bool} {held : Bool} {v : Value} {y : DataW H × List MemPlace} {M : Nat}
    (h : DataW.trod enc Tryz.prog w base spare held n 42 [v] = some y) (hM : Rows.uptoBulk y.1 ≤ M) :
    ∃ (A : Option Addr) (c : Nat) (xs : List (Cls × Value)), v = .slice A xs.length c ∧ xs.length ≤ c ∧ Rd w w.heap.size A (ck_ xs) ∧ ∀ x ∈ xs, ClsIn w M x := by
  rcases Deep.open_slice Tryz.underlying42 h with ⟨hcs, _⟩ | ⟨a, l, c, m, n, D, Pl, hcs, hb, hl, hm, hmm, hdd, hx⟩
  · injection hcs with hcs
    exact ⟨none, 0, [], hcs, Nat.le_refl _, .inl rfl, fun x hx => by cases hx⟩
  · injection hcs with hcs
    have ce : Tryz.prog.cellsOf 75 = 4 := by kernel_rfl
    have c1 : Tryz.prog.cellsOf 9 = 1 := by kernel_rfl
    have c2 : Tryz.prog.cellsOf 22 = 1 := by kernel_rfl
    have c0 : Tryz.prog.cellsOf 3 = 1 := by kernel_rfl
    have hrow : ∀ k, k < l → ∃ (b off : Nat) (x : Cls × Value), some a = some ⟨b, off, none⟩ ∧ b < w.heap.size ∧ (∀ m v, ([.string (mkB x.1.1), .string (mkB x.1.2.1), x.2, .int .i64 x.1.2.2.2] : List Value)[m]? = some v → w.cell? ⟨b, off + (k * 4 + m), none⟩ = some v) ∧ ClsIn w M x := by
      intro k hk
      have hkm : k < m := by rw [hmm]; split <;> omega
      obtain ⟨cs', h1, h2⟩ := hx k hkm
      rw [ce] at h1
      obtain ⟨_, hlen, hcell⟩ := World.cells?_some h1
      obtain ⟨xs, q, hq, hxy, _, hxl, hfl⟩ := DataW.trod_struct Tryz.underlying75 h2
      match xs, hxl, cs', hlen with
      | [y0, y1, y2, y3], _, [v0, v1, v2, v3], _ =>
        have g0 := hfl 0 _ rfl
        have g1 := hfl 1 _ rfl
        have g2 := hfl 2 _ rfl
        have g3 := hfl 3 _ rfl
        simp [c0, c1, c2] at g0 g1 g2 g3
        have hd1 := congrArg Prod.fst hdd
        have hD := congrArg Prod.fst hxy
        simp only [List.map_cons, List.map_nil] at hd1 hD
        have hDM : Rows.uptoBulk (D k) ≤ M := by
          refine Nat.le_trans ?_ hM
          rw [hd1]
          exact bulk_slice (List.mem_map.2 ⟨k, List.mem_range.2 hk, rfl⟩)
        have bk : ∀ z ∈ [y0, y1, y2, y3], Rows.uptoBulk z.1 ≤ M := fun z hz => by
          refine Nat.le_trans ?_ hDM
          rw [hD]
          exact bulk_agg (by simp only [List.mem_cons, List.not_mem_nil, or_false] at hz ⊢; rcases hz with rfl | rfl | rfl | rfl <;> simp)
        obtain ⟨s0, hs0, hd0, _⟩ := DataW.trod_string Tryz.underlying9 g0
        obtain ⟨s1, hs1, hd1', _⟩ := DataW.trod_string Tryz.underlying9 g1
        obtain ⟨Af, cf, ts, hts, f1, f2, f3, f4, _⟩ := open_fields g2 (bk y2 (by simp))
        obtain ⟨j, hj, _, hj2⟩ := DataW.trod_int Tryz.underlying3 g3
        simp at hs0 hs1 hj
        subst hs0 hs1 hj
        have z0 : s0.size ≤ M := by
          have e1 : Rows.uptoBulk y0.1 = s0.size + 1 := by rw [hd0]; show Rows.uptoBulk (DataW.lit (Lit.string s0.data.toList)) = _; rw [bulk_str]; simp
          have := bk y0 (by simp)
          omega
        have z1 : s1.size ≤ M := by
          have e1 : Rows.uptoBulk y1.1 = s1.size + 1 := by rw [hd1']; show Rows.uptoBulk (DataW.lit (Lit.string s1.data.toList)) = _; rw [bulk_str]; simp
          have := bk y1 (by simp)
          omega
        obtain ⟨b, off, spot⟩ := a
        have hspot : spot = none := by
          obtain ⟨cs0, h10, _⟩ := hx 0 (by omega)
          rw [ce] at h10
          obtain ⟨_, hl0, hc0⟩ := World.cells?_some h10
          have e1 := hc0 0 (by omega)
          rw [List.getElem?_eq_getElem (by omega)] at e1
          have e := World.cell?_spot e1
          simpa [Addr.add] using e
        subst hspot
        have pl : ∀ x n : Nat, (⟨b, x, none⟩ : Addr).add n = ⟨b, x + n, none⟩ := fun x n => by unfold Addr.add; split <;> simp_all
        have e0 := hcell 0 (by omega)
        rw [pl, pl] at e0
        refine ⟨b, off, ((sb s0, sb s1, ts, j), v2), rfl, World.block_lt_of_cell? w _ e0, fun i v hi => ?_, by simpa [sb] using z0, by simpa [sb] using z1, f4, wf_bdT hj2, Af, cf, hts, f1, f2, f3⟩
        dsimp only at hi
        rw [mkB_sb, mkB_sb] at hi
        have hi4 : i < 4 := (List.getElem?_eq_some_iff.1 hi).1
        have e := hcell i (by omega)
        rw [pl, pl, Nat.add_assoc] at e
        exact e.trans hi
    obtain ⟨xs, hlx, hr, hP⟩ := rows4 (fun x : Cls × Value => [.string (mkB x.1.1), .string (mkB x.1.2.1), x.2, .int .i64 x.1.2.2.2]) (fun _ => rfl) (ClsIn w M) hrow
    exact ⟨some a, c, xs, by rw [hcs, hlx], by omega, hr, hP⟩
set_option maxRecDepth 100000 in
theorem open_sources {H : Type} {enc : TypeId × Value → H} {w : World} {base n : Nat} {spare : Nat → Bool} {held : Bool} {v : Value} {y : DataW H × List MemPlace} {M : Nat}
    (h : DataW.trod enc Tryz.prog w base spare held n 43 [v] = some y) (hM : Rows.uptoBulk y.1 ≤ M) :
    ∃ (A : Option Addr) (c : Nat) (xs : List Src), v = .slice A xs.length c ∧ xs.length ≤ c ∧ Rd w w.heap.size A (sk_ xs) ∧ ∀ x ∈ xs, SrcIn M x := by
  rcases Deep.open_slice Tryz.underlying43 h with ⟨hcs, _⟩ | ⟨a, l, c, m, n, D, Pl, hcs, hb, hl, hm, hmm, hdd, hx⟩
  · injection hcs with hcs
    exact ⟨none, 0, [], hcs, Nat.le_refl _, .inl rfl, fun x hx => by cases hx⟩
  · injection hcs with hcs
    have ce : Tryz.prog.cellsOf 76 = 4 := by kernel_rfl
    have c1 : Tryz.prog.cellsOf 9 = 1 := by kernel_rfl
    have c2 : Tryz.prog.cellsOf 4 = 1 := by kernel_rfl
    have c0 : Tryz.prog.cellsOf 3 = 1 := by kernel_rfl
    have hrow : ∀ k, k < l → ∃ (b off : Nat) (x : Src), some a = some ⟨b, off, none⟩ ∧ b < w.heap.size ∧ (∀ m v, ([.string (mkB x.1), .bool x.2.1, .string (mkB x.2.2.1), .int .i64 x.2.2.2] : List Value)[m]? = some v → w.cell? ⟨b, off + (k * 4 + m), none⟩ = some v) ∧ SrcIn M x := by
      intro k hk
      have hkm : k < m := by rw [hmm]; split <;> omega
      obtain ⟨cs', h1, h2⟩ := hx k hkm
      rw [ce] at h1
      obtain ⟨_, hlen, hcell⟩ := World.cells?_some h1
      obtain ⟨xs, q, hq, hxy, _, hxl, hfl⟩ := DataW.trod_struct Tryz.underlying76 h2
      match xs, hxl, cs', hlen with
      | [y0, y1, y2, y3], _, [v0, v1, v2, v3], _ =>
        have g0 := hfl 0 _ rfl
        have g1 := hfl 1 _ rfl
        have g2 := hfl 2 _ rfl
        have g3 := hfl 3 _ rfl
        simp [c0, c1, c2] at g0 g1 g2 g3
        have hd1 := congrArg Prod.fst hdd
        have hD := congrArg Prod.fst hxy
        simp only [List.map_cons, List.map_nil] at hd1 hD
        have hDM : Rows.uptoBulk (D k) ≤ M := by
          refine Nat.le_trans ?_ hM
          rw [hd1]
          exact bulk_slice (List.mem_map.2 ⟨k, List.mem_range.2 hk, rfl⟩)
        have bk : ∀ z ∈ [y0, y1, y2, y3], Rows.uptoBulk z.1 ≤ M := fun z hz => by
          refine Nat.le_trans ?_ hDM
          rw [hD]
          exact bulk_agg (by simp only [List.mem_cons, List.not_mem_nil, or_false] at hz ⊢; rcases hz with rfl | rfl | rfl | rfl <;> simp)
        obtain ⟨s0, hs0, hd0, _⟩ := DataW.trod_string Tryz.underlying9 g0
        obtain ⟨t, ht, _⟩ := DataW.trod_bool Tryz.underlying4 g1
        obtain ⟨s1, hs1, hd1', _⟩ := DataW.trod_string Tryz.underlying9 g2
        obtain ⟨j, hj, _, hj2⟩ := DataW.trod_int Tryz.underlying3 g3
        simp at hs0 hs1 hj ht
        subst hs0 hs1 hj ht
        have z0 : s0.size ≤ M := by
          have e1 : Rows.uptoBulk y0.1 = s0.size + 1 := by rw [hd0]; show Rows.uptoBulk (DataW.lit (Lit.string s0.data.toList)) = _; rw [bulk_str]; simp
          have := bk y0 (by simp)
          omega
        have z1 : s1.size ≤ M := by
          have e1 : Rows.uptoBulk y2.1 = s1.size + 1 := by rw [hd1']; show Rows.uptoBulk (DataW.lit (Lit.string s1.data.toList)) = _; rw [bulk_str]; simp
          have := bk y2 (by simp)
          omega
        obtain ⟨b, off, spot⟩ := a
        have hspot : spot = none := by
          obtain ⟨cs0, h10, _⟩ := hx 0 (by omega)
          rw [ce] at h10
          obtain ⟨_, hl0, hc0⟩ := World.cells?_some h10
          have e1 := hc0 0 (by omega)
          rw [List.getElem?_eq_getElem (by omega)] at e1
          have e := World.cell?_spot e1
          simpa [Addr.add] using e
        subst hspot
        have pl : ∀ x n : Nat, (⟨b, x, none⟩ : Addr).add n = ⟨b, x + n, none⟩ := fun x n => by unfold Addr.add; split <;> simp_all
        have e0 := hcell 0 (by omega)
        rw [pl, pl] at e0
        refine ⟨b, off, (sb s0, t, sb s1, j), rfl, World.block_lt_of_cell? w _ e0, fun i v hi => ?_, by simpa [sb] using z0, by simpa [sb] using z1, wf_bdT hj2⟩
        dsimp only at hi
        rw [mkB_sb, mkB_sb] at hi
        have hi4 : i < 4 := (List.getElem?_eq_some_iff.1 hi).1
        have e := hcell i (by omega)
        rw [pl, pl, Nat.add_assoc] at e
        exact e.trans hi
    obtain ⟨xs, hlx, hr, hP⟩ := rows4 (fun x : Src => [.string (mkB x.1), .bool x.2.1, .string (mkB x.2.2.1), .int .i64 x.2.2.2]) (fun _ => rfl) (SrcIn M) hrow
    exact ⟨some a, c, xs, by rw [hcs, hlx], by omega, hr, hP⟩
set_option maxRecDepth 100000 in
theorem open_unit {H : Type} {enc : TypeId × Value → H} {w : World} {base b0 : Nat} {spare : Nat → Bool} {held : Bool} {r : Reach} {v : Value} {d : DataW H} {p : List MemPlace} {M : Nat}
    (hv : Value.okWide Tryz.prog w r b0 45 v) (h : DataW.Trod enc Tryz.prog w base spare held 45 v d p) (hM : Rows.uptoBulk d ≤ M) :
    ∃ v0 v1 fs ss, v = .agg #[v0, v1] ∧ UnAt w w.heap.size v0 v1 fs ss ∧ (∀ x ∈ fs, ClsIn w M x) ∧ ∀ x ∈ ss, SrcIn M x := by
  have kg : Tryz.prog.cellsOf 45 = 2 := by kernel_rfl
  have k1 : Tryz.prog.cellsOf 42 = 1 := by kernel_rfl
  have k2 : Tryz.prog.cellsOf 43 = 1 := by kernel_rfl
  obtain ⟨cs, rfl, hsz⟩ := okWide_struct Tryz.underlying45 hv
  rw [kg] at hsz
  obtain ⟨cs⟩ := cs
  obtain ⟨fuel, hf⟩ := h
  obtain ⟨xs, n, _, hxy, hl, hxl, hfl⟩ := DataW.trod_struct Tryz.underlying45 hf
  match xs, hxl, cs, hsz with
  | [y0, y1], _, [v0, v1], _ =>
    have g0 := hfl 0 _ rfl
    have g1 := hfl 1 _ rfl
    simp [k1, k2] at g0 g1
    have hD := congrArg Prod.fst hxy
    simp only [List.map_cons, List.map_nil] at hD
    have b0 : Rows.uptoBulk y0.1 ≤ M := Nat.le_trans (by rw [hD]; exact bulk_agg (by simp)) hM
    have b1 : Rows.uptoBulk y1.1 ≤ M := Nat.le_trans (by rw [hD]; exact bulk_agg (by simp)) hM
    obtain ⟨A, c, fs, rfl, i1, i2, i3⟩ := open_classes g0 b0
    obtain ⟨A', c', ss, rfl, j1, j2, j3⟩ := open_sources g1 b1
    exact ⟨_, _, fs, ss, rfl, ⟨⟨A, c, rfl, i1, i2⟩, ⟨A', c', rfl, j1, j2⟩, fun x hx => (i3 x hx).2.2.2.2⟩, i3, j3⟩
end Go.Proofs.YtmdkneollidkfaaGreatDoor.Fl

/-
  The law's few: a unit of few and short parts.
-/
namespace Go.Proofs.YtmdkneollidkfaaGreatDoor.Fl
open Go.RowKit Go.Shelf

def fewK (c : Cls) : Cls := (c.1, c.2.1, c.2.2.1.take 8, c.2.2.2)
def fewX (x : Src) : Src := (x.1, x.2.1, x.2.2.1.take 9000, x.2.2.2)
/-- what stands while the few are taken; their fields stand where they stood -/
structure TfW (w0 w : World) (U : Nat) (fs : List (Cls × Value)) (ss : List Src) (A1 : Option Addr) (c1 : Nat) (A2 : Option Addr) (c2 : Nat) : Prop where
  u : w.heap[U]? = some (.cells #[.slice A1 fs.length c1, .slice A2 ss.length c2] 45 (0, 0))
  bel : Below w0.heap.size w0 w
  hU : w0.heap.size ≤ U
  ownC : OwnY w w0.heap.size (.slice A1 fs.length c1) fs
  ownX : OwnX w w0.heap.size (.slice A2 ss.length c2) ss
section
variable {w0 w w1 w2 : World} {U : Nat} {fs : List (Cls × Value)} {ss : List Src} {A1 A2 A3 : Option Addr} {c1 c2 c3 : Nat}
theorem TfW.below (h : TfW w0 w U fs ss A1 c1 A2 c2) (hb : Below w.heap.size w w1) : TfW w0 w1 U fs ss A1 c1 A2 c2 :=
  ⟨(hb.block U (lt_of_blk h.u)).trans h.u, h.bel.trans (hb.mono h.bel.size), h.hU, h.ownC.below hb, h.ownX.below hb⟩
theorem TfW.addX {ts : List Src} (h0 : TfW w0 w U fs ss A1 c1 A2 c2) (hb : Below w.heap.size w w1)
    (ho : OwnX w2 w0.heap.size (.slice A3 ts.length c3) ts) (hk : Below w0.heap.size w1 w2 ∧ (∀ k, k < w1.heap.size → some k ≠ (Value.slice A2 ss.length c2).ownBlock → w2.heap[k]? = w1.heap[k]?)) :
    TfW w0 (w2.setCell ⟨U, 1, none⟩ (.slice A3 ts.length c3)) U fs ts A1 c1 A3 c3 ∧ ∀ k cs T fr, w.heap[k]? = some (.cells cs T fr) → k ≠ U → T ≠ 76 → (w2.setCell ⟨U, 1, none⟩ (.slice A3 ts.length c3)).heap[k]? = some (.cells cs T fr) := by
  have h := h0.below hb
  obtain ⟨hk1, hk2⟩ := hk
  have eU := (hk2 U (lt_of_blk h.u) (own_ne h.ownX h.u (by decide)).symm).trans h.u
  have oC : OwnY w2 w0.heap.size (.slice A1 fs.length c1) fs := h.ownC.keep fun j hj => hk2 j (World.ownsRow.lt h.ownC _ hj).2 (own_far h.ownC h.ownX (by decide) hj)
  refine ⟨⟨heap_setCell_same _ U 1 _ _ _ eU, (h.bel.trans hk1).setCell (p := ⟨U, 1, none⟩) h.hU _, h.hU, oC.cell (own_ne oC eU (by decide)) _, ho.cell (own_ne ho eU (by decide)) _⟩, ?_⟩
  intro k cs T fr hkk hkU hT
  have h1 := (hb.block k (lt_of_blk hkk)).trans hkk
  exact (Below.heap_setCell w2 ⟨U, 1, none⟩ _ k hkU).trans ((hk2 k (lt_of_blk h1) (own_ne h.ownX h1 hT).symm).trans h1)
theorem TfW.addY {ts : List (Cls × Value)} (h0 : TfW w0 w U fs ss A1 c1 A2 c2) (hb : Below w.heap.size w w1)
    (ho : OwnY w2 w0.heap.size (.slice A3 ts.length c3) ts) (hk : Below w0.heap.size w1 w2 ∧ (∀ k, k < w1.heap.size → some k ≠ (Value.slice A1 fs.length c1).ownBlock → w2.heap[k]? = w1.heap[k]?)) :
    TfW w0 (w2.setCell ⟨U, 0, none⟩ (.slice A3 ts.length c3)) U ts ss A3 c3 A2 c2 ∧ ∀ k cs T fr, w.heap[k]? = some (.cells cs T fr) → k ≠ U → T ≠ 75 → (w2.setCell ⟨U, 0, none⟩ (.slice A3 ts.length c3)).heap[k]? = some (.cells cs T fr) := by
  have h := h0.below hb
  obtain ⟨hk1, hk2⟩ := hk
  have eU := (hk2 U (lt_of_blk h.u) (own_ne h.ownC h.u (by decide)).symm).trans h.u
  have oX : OwnX w2 w0.heap.size (.slice A2 ss.length c2) ss := h.ownX.keep fun j hj => hk2 j (World.ownsRow.lt h.ownX _ hj).2 (own_far h.ownX h.ownC (by decide) hj)
  refine ⟨⟨heap_setCell_same _ U 0 _ _ _ eU, (h.bel.trans hk1).setCell (p := ⟨U, 0, none⟩) h.hU _, h.hU, ho.cell (own_ne ho eU (by decide)) _, oX.cell (own_ne oX eU (by decide)) _⟩, ?_⟩
  intro k cs T fr hkk hkU hT
  have h1 := (hb.block k (lt_of_blk hkk)).trans hkk
  exact (Below.heap_setCell w2 ⟨U, 0, none⟩ _ k hkU).trans ((hk2 k (lt_of_blk h1) (own_ne h.ownC h1 hT).symm).trans h1)
theorem TfW.cell (h : TfW w0 w U fs ss A1 c1 A2 c2) {F : Nat} (k : Nat) (x : Value) (hF : w0.heap.size ≤ F) (hU : F ≠ U) (hC : (Value.slice A1 fs.length c1).ownBlock ≠ some F) (hX : (Value.slice A2 ss.length c2).ownBlock ≠ some F) :
    TfW w0 (w.setCell ⟨F, k, none⟩ x) U fs ss A1 c1 A2 c2 :=
  ⟨(Below.heap_setCell w ⟨F, k, none⟩ x U (Ne.symm hU)).trans h.u, h.bel.setCell (p := ⟨F, k, none⟩) hF _, h.hU, h.ownC.cell hC _, h.ownX.cell hX _⟩
end
/-- how a class's fields stand -/
def FdAt (w : World) (B : Nat) (x : Cls × Value) : Prop := ∃ A c, x.2 = .slice A x.1.2.2.1.length c ∧ x.1.2.2.1.length ≤ c ∧ (A = none → x.1.2.2.1.length = 0) ∧ Rd w B A (cs_ x.1.2.2.1)
def FewPost (w0 : World) (fs : List (Cls × Value)) (ss : List Src) (e : Ending) (w' : World) : Prop :=
  Below w0.heap.size w0 w' ∧ ∃ u0 u1 fs2, e = .returned (.agg #[u0, u1]) ∧ UnAt w' w'.heap.size u0 u1 fs2 ((ss.take 12).map fewX) ∧ fs2.map (fun x => x.1) = (fs.take 12).map (fun x => fewK x.1)
theorem few_result {W : World} {C : Nat} {v0 v1 : Value} {a : Array Value} (h : W.heap[C]? = some (.cells #[v0, v1] 45 (0, 0))) (h2 : a[2]?.getD undef = .pointer (some ⟨C, 0, none⟩)) :
    (results Tryz.f14 a).run Tryz.prog W = .ok (.agg #[v0, v1]) W := by
  obtain ⟨c0, c1, _⟩ := cells2V h
  simp [results, Tryz.results14, go_sem, h2, c0, c1]
theorem boxes2U (w : World) (x y : Obj) (W : World) (hW : (w.alloc x).alloc y = W) : W.heap[w.heap.size]? = some x ∧ W.heap[w.heap.size + 1]? = some y ∧ Below w.heap.size w W := by
  refine ⟨?_, ?_, ?_⟩
  · rw [← hW]; exact (Below.heap_alloc _ _ _ (by rw [World.size_alloc]; omega)).trans (heap_alloc_new w _)
  · rw [← hW, ← World.size_alloc w x]; exact heap_alloc_new _ _
  · rw [← hW]; exact ((Below.refl _ w).alloc (Nat.le_refl _) _).alloc (by rw [World.size_alloc]; omega) _
set_option maxRecDepth 100000 in
set_option maxHeartbeats 8000000 in
theorem few_any (w0 : World) (v0 v1 : Value) (fs : List (Cls × Value)) (ss : List Src) (h : UnAt w0 w0.heap.size v0 v1 fs ss) :
    Calls Tryz.prog 14 #[.agg #[v0, v1]] w0 (FewPost w0 fs ss) := by
  obtain ⟨⟨Ac, cc, rfl, hcc, hrc⟩, ⟨As, cs, rfl, hcs, hrs⟩, hfi⟩ := h
  obtain ⟨W, hW⟩ : ∃ W, (w0.alloc (.cells #[.slice Ac fs.length cc, .slice As ss.length cs] 45)).alloc (.cells #[.slice none 0 0, .slice none 0 0] 45) = W := ⟨_, rfl⟩
  obtain ⟨q1, q2, hb⟩ := boxes2U w0 _ _ W hW
  have HRC := Lib.hid hrc
  have HRS := Lib.hid hrs
  have HFI := Lib.hid hfi
  clear hrc hrs hfi
  go_enter Tryz.func14, Tryz.ntmps14
  go_upto_region 1 with fail
  try simp only [hW]
  obtain ⟨T, hT⟩ : ∃ T, w0.heap.size = T := ⟨_, rfl⟩
  rw [hT] at q1 q2
  try simp only [hT]
  have HB0 := Lib.hid hb
  have HQ := Lib.hid (And.intro q1 q2)
  have HTT := Lib.hid hT
  clear hW hb q1 q2 hT
  have f1 := cells2V HQ.out.1
  have l1 := lt_of_blk HQ.out.1
  go_upto_if 11 with fail
  go_cut [] from 11 (fun wx => ∃ n1, Hid (n1 = min 12 fs.length) ∧ Hid (wx.heap[T]? = some (.cells #[.slice Ac n1 cc, .slice As ss.length cs] 45 (0, 0)) ∧ wx.heap[T + 1]? = some (.cells #[.slice none 0 0, .slice none 0 0] 45 (0, 0))) ∧ Hid (Below w0.heap.size w0 wx))
  case first =>
    go_wp2_with fail
    · go_meet
      refine ⟨12, Lib.hid (by omega), Lib.hid ⟨heap_setCell_same _ T 0 _ _ _ HQ.out.1, (Below.heap_setCell W ⟨T, 0, none⟩ _ (T + 1) (show T + 1 ≠ T by omega)).trans HQ.out.2⟩, Lib.hid (HB0.out.setCell (p := ⟨T, 0, none⟩) (Nat.le_of_eq HTT.out) _)⟩
    · go_meet
      exact ⟨fs.length, Lib.hid (by omega), HQ, HB0⟩
  case rest =>
  obtain ⟨n1, HN1, HQ1, HB1⟩ := hcut
  clear f1 l1 HQ HB0
  have f1 := cells2V HQ1.out.1
  have l1 := lt_of_blk HQ1.out.1
  go_upto_if 19 with fail
  go_cut [] from 19 (fun wx => ∃ n2, Hid (n2 = min 12 ss.length) ∧ Hid (wx.heap[T]? = some (.cells #[.slice Ac n1 cc, .slice As n2 cs] 45 (0, 0)) ∧ wx.heap[T + 1]? = some (.cells #[.slice none 0 0, .slice none 0 0] 45 (0, 0))) ∧ Hid (Below w0.heap.size w0 wx))
  case first =>
    go_wp2_with fail
    · go_meet
      refine ⟨12, Lib.hid (by omega), Lib.hid ⟨heap_setCell_same _ T 1 _ _ _ HQ1.out.1, (Below.heap_setCell wc ⟨T, 1, none⟩ _ (T + 1) (show T + 1 ≠ T by omega)).trans HQ1.out.2⟩, Lib.hid (HB1.out.setCell (p := ⟨T, 1, none⟩) (Nat.le_of_eq HTT.out) _)⟩
    · go_meet
      exact ⟨ss.length, Lib.hid (by omega), HQ1, HB1⟩
  case rest =>
  obtain ⟨n2, HN2, HQ2, HB2⟩ := hcut
  clear f1 l1 HQ1 HB1
  have hn1 : n1 ≤ 12 := by have := HN1.out; omega
  have hn2 : n2 ≤ 12 := by have := HN2.out; omega
  obtain ⟨U, hU⟩ : ∃ U, wc.heap.size = U := ⟨_, rfl⟩
  obtain ⟨W2, hW2⟩ : ∃ W2, wc.alloc (.cells #[.slice none 0 0, .slice none 0 0] 45) = W2 := ⟨_, rfl⟩
  have q3 : W2.heap[U]? = some (.cells #[.slice none 0 0, .slice none 0 0] 45 (0, 0)) := by rw [← hW2, ← hU]; exact heap_alloc_new wc _
  have hb3 : Below wc.heap.size wc W2 := by rw [← hW2]; exact (Below.refl _ _).alloc (Nat.le_refl _) _
  have hTU : T + 1 < U := by have := lt_of_blk HQ2.out.2; omega
  have HH := Lib.hid (show TfW w0 W2 U [] [] none 0 none 0 ∧ W2.heap[T]? = some (.cells #[.slice Ac n1 cc, .slice As n2 cs] 45 (0, 0)) ∧ W2.heap[T + 1]? = some (.cells #[.slice none 0 0, .slice none 0 0] 45 (0, 0)) from
    ⟨⟨q3, HB2.out.trans (hb3.mono HB2.out.size), by have := HB2.out.size; omega, World.ownsRow_nil _ _ _ _, World.ownsRow_nil _ _ _ _⟩, (hb3.block _ (lt_of_blk HQ2.out.1)).trans HQ2.out.1, (hb3.block _ (lt_of_blk HQ2.out.2)).trans HQ2.out.2⟩)
  clear q3 hb3 HQ2 HB2
  go_upto_region 6 with fail
  try simp only [hW2, hU]
  have f1 := cells2V HH.out.2.1
  have l1 := lt_of_blk HH.out.2.1
  clear hW2 hU
  go_wp2_with fail
  go_loopw [27] (fun v wr => ∃ (i : Nat) (fs2 : List (Cls × Value)) (A5 : Option Addr) (c5 : Nat), i ≤ n1 ∧ v = .int .i64 (i : Int) ∧ Hid (TfW w0 wr U fs2 [] A5 c5 none 0) ∧
    Hid (wr.heap[T]? = some (.cells #[.slice Ac n1 cc, .slice As n2 cs] 45 (0, 0)) ∧ wr.heap[T + 1]? = some (.cells #[.slice none 0 0, .slice none 0 0] 45 (0, 0))) ∧ Hid (fs2.map (fun x => x.1) = (fs.take i).map (fun x => fewK x.1) ∧ fs2.length = i) ∧ Hid (∀ x ∈ fs2, FdAt w0 w0.heap.size x)) (fun v _ => n1 - (intOf v).toNat)
  case atStart => exact ⟨0, [], none, 0, Nat.zero_le _, rfl, Lib.hid HH.out.1, Lib.hid HH.out.2, Lib.hid ⟨rfl, rfl⟩, Lib.hid (fun x hx => by cases hx)⟩
  case round =>
    clear HH f1 l1
    obtain ⟨i, fs2, A5, c5, hi, rfl, HT, HX, HM, HF⟩ := hrel
    by_cases hlt0 : i < n1
    case neg =>
      have hq : ¬ ((i : Int) < (n1 : Int)) := by omega
      have e : i = n1 := by omega
      have f1 := cells2V HX.out.1
      have l1 := lt_of_blk HX.out.1
      go_wp2_with fail
      go_loopw [49] (fun v wr => ∃ (j : Nat) (ss2 : List Src) (A6 : Option Addr) (c6 : Nat), j ≤ n2 ∧ v = .int .i64 (j : Int) ∧ Hid (TfW w0 wr U fs2 ss2 A5 c5 A6 c6) ∧
        Hid (wr.heap[T]? = some (.cells #[.slice Ac n1 cc, .slice As n2 cs] 45 (0, 0)) ∧ wr.heap[T + 1]? = some (.cells #[.slice none 0 0, .slice none 0 0] 45 (0, 0))) ∧ Hid (ss2 = (ss.take j).map fewX ∧ ss2.length = j)) (fun v _ => n2 - (intOf v).toNat)
      case atStart => exact ⟨0, [], none, 0, Nat.zero_le _, rfl, HT, HX, Lib.hid ⟨rfl, rfl⟩⟩
      case round =>
        clear HT HX f1 l1
        obtain ⟨j, ss2, A6, c6, hj, rfl, HT, HX, HM3⟩ := hrel
        by_cases hlt1 : j < n2
        case neg =>
          have hq2 : ¬ ((j : Int) < (n2 : Int)) := by omega
          have e2 := Lib.hid (show ss2 = (ss.take 12).map fewX by
            have h := HM3.out.1
            have h2 := HN2.out
            rw [show j = n2 by omega] at h
            rw [h]
            rcases Nat.le_total 12 ss.length with h3 | h3
            · rw [show n2 = 12 by omega]
            · rw [show n2 = ss.length by omega, List.take_length, List.take_of_length_le h3])
          have e3 := Lib.hid (show fs2.map (fun x => x.1) = (fs.take 12).map (fun x => fewK x.1) by
            have h := HM.out.1
            have h2 := HN1.out
            rw [e] at h
            rw [h]
            rcases Nat.le_total 12 fs.length with h3 | h3
            · rw [show n1 = 12 by omega]
            · rw [show n1 = fs.length by omega, List.take_length, List.take_of_length_le h3])
          have f1 := cells2V HT.out.u
          have f2 := cells2V HX.out.2
          have l2 := lt_of_blk HX.out.2
          have l3 := lt_of_blk HT.out.u
          go_wp2_with fail
          have g1 := set2V HX.out.2 (.slice A5 fs2.length c5) (.slice A6 ss2.length c6)
          refine bodyPost_ret (v := .agg #[.slice A5 fs2.length c5, .slice A6 ss2.length c6]) (few_result g1 rfl) rfl ?_
          have nC := own_ne HT.out.ownC HX.out.2 (by decide)
          have nX := own_ne HT.out.ownX HX.out.2 (by decide)
          have hB9 := (HT.out.bel.setCell (p := ⟨T + 1, 0, none⟩) (show w0.heap.size ≤ T + 1 by rw [HTT.out]; omega) (.slice A5 fs2.length c5)).setCell (p := ⟨T + 1, 1, none⟩) (show w0.heap.size ≤ T + 1 by rw [HTT.out]; omega) (.slice A6 ss2.length c6)
          have hC9 := (HT.out.ownC.cell nC (k := 0) (.slice A5 fs2.length c5)).cell nC (k := 1) (.slice A6 ss2.length c6)
          have hX9 := (HT.out.ownX.cell nX (k := 0) (.slice A5 fs2.length c5)).cell nX (k := 1) (.slice A6 ss2.length c6)
          obtain ⟨y1, y2, _⟩ := own_rdZ hC9
          obtain ⟨z1, z2, _⟩ := own_rdZ hX9
          have e2 := e2.out
          subst e2
          refine ⟨hB9, _, _, fs2, rfl, ⟨⟨A5, c5, rfl, y2, y1⟩, ⟨A6, c6, rfl, z2, z1⟩, fun x hx => ?_⟩, e3.out⟩
          obtain ⟨A, c, x1, x2, x3, x4⟩ := HF.out x hx
          exact ⟨A, c, x1, x2, x3, (x4.below hB9 (Nat.le_refl _)).more hB9.size⟩
        have hq2 : (j : Int) < (n2 : Int) := by omega
        have hlt2 : j < ss.length := by have := HN2.out; omega
        have hmore : ss.take (j + 1) = ss.take j ++ [ss[j]] := List.take_succ_eq_append_getElem hlt2
        obtain ⟨b, o, rfl, hbb, d0, d1, d2, d3⟩ := rdX_at (HRS.out.below HT.out.bel (Nat.le_refl _)) hlt2
        obtain ⟨⟨cn, mt, tx, at_⟩, hy⟩ : ∃ y, ss[j] = y := ⟨_, rfl⟩
        rw [hy] at d0 d1 d2 d3 hmore
        dsimp only at d0 d1 d2 d3
        have hbw : b < wr.heap.size := Nat.lt_of_lt_of_le hbb HT.out.bel.size
        clear hy
        go_upto_region 16 with fail
        obtain ⟨W1, hW1⟩ : ∃ W1, wr.alloc (.cells #[.string (mkB cn), .bool mt, .string (mkB tx), .int .i64 at_] 76) = W1 := ⟨_, rfl⟩
        obtain ⟨F, hF⟩ : ∃ F, wr.heap.size = F := ⟨_, rfl⟩
        have hs : W1.heap[F]? = some (.cells #[.string (mkB cn), .bool mt, .string (mkB tx), .int .i64 at_] 76 (0, 0)) := by rw [← hW1, ← hF]; exact heap_alloc_new wr _
        have hb1 : Below wr.heap.size wr W1 := by rw [← hW1]; exact (Below.refl _ _).alloc (Nat.le_refl _) _
        have nC0 : (Value.slice A5 fs2.length c5).ownBlock ≠ some F := fun e => by have := (World.ownsRow.lt HT.out.ownC _ e).2; omega
        have nX0 : (Value.slice A6 ss2.length c6).ownBlock ≠ some F := fun e => by have := (World.ownsRow.lt HT.out.ownX _ e).2; omega
        have hUF : U < F := by have := lt_of_blk HT.out.u; omega
        try rw [hW1]
        try simp only [hF]
        have hT0 := HT.out.below hb1
        have hbx1' := (hb1.block _ (lt_of_blk HX.out.1)).trans HX.out.1
        have hbx2' := (hb1.block _ (lt_of_blk HX.out.2)).trans HX.out.2
        have fs1 := cells4L hs
        have lF0 := lt_of_blk hs
        have hzt : ((mkB tx).size : Int) = (tx.length : Int) := by rw [mkL_size]
        have hext : (mkB tx).extract 0 9000 = mkB (tx.take 9000) := by
          apply ByteArray.ext
          simp
        clear hW1 hb1 d0 d1 d2 d3
        by_cases h8 : 9000 < tx.length
        case pos =>
          have h8i : (9000 : Int) < (tx.length : Int) := by omega
          have h8j : (9000 : Int) ≤ (tx.length : Int) := by omega
          go_upto_region 18 with fail
          try rw [hext]
          have hT1 := (hT0.cell (F := F) 2 (.string (mkB (tx.take 9000))) (by have := hT0.bel.size; have := HT.out.bel.size; omega) (by omega) nC0 nX0)
          have hs2 : (W1.setCell ⟨F, 2, none⟩ (.string (mkB (tx.take 9000)))).heap[F]? = some (.cells #[.string (mkB cn), .bool mt, .string (mkB (tx.take 9000)), .int .i64 at_] 76 (0, 0)) := heap_setCell_same _ F 2 _ _ _ hs
          have hbx1 : (W1.setCell ⟨F, 2, none⟩ (.string (mkB (tx.take 9000)))).heap[T]? = _ := (Below.heap_setCell W1 ⟨F, 2, none⟩ _ T (show T ≠ F by omega)).trans hbx1'
          have hbx2 : (W1.setCell ⟨F, 2, none⟩ (.string (mkB (tx.take 9000)))).heap[T + 1]? = _ := (Below.heap_setCell W1 ⟨F, 2, none⟩ _ (T + 1) (show T + 1 ≠ F by omega)).trans hbx2'
          clear hT0 hs hbx1' hbx2' fs1
          generalize (W1.setCell ⟨F, 2, none⟩ (.string (mkB (tx.take 9000)))) = W3 at *
          have fu := cells2V hT1.u
          have fs2c := cells4L hs2
          have hb2 : Below W3.heap.size W3 (W3.alloc (.cells #[.string (mkB cn), .bool mt, .string (mkB (tx.take 9000)), .int .i64 at_] 76)) := (Below.refl _ _).alloc (Nat.le_refl _) _
          have hT2 := hT1.below hb2
          have hr2 := sc__one (w := W3.alloc (.cells #[.string (mkB cn), .bool mt, .string (mkB (tx.take 9000)), .int .i64 at_] 76)) (C := W3.heap.size) (cn, mt, tx.take 9000, at_) (heap_alloc_new _ _)
          have lU := lt_of_blk hT1.u
          have lF := lt_of_blk hs2
          have lT2 := lt_of_blk hT2.u
          have hlen3 : ss2.length ≤ 100000000 := by have := HM3.out.2; have := HN2.out; omega
          go_wp2_with (first
            | (at_builtin; refine wpList_append_x (base := w0.heap.size) (v := .slice A6 ss2.length c6) (xs := ss2) (news := [(cn, mt, tx.take 9000, at_)]) rfl _ _ rfl rfl rfl hT2.ownX hr2 (fun h => by cases h) (by simp [sc_, Value.oneCell']) (by omega) (by simp) hT2.bel.size ?_
               intro A7 t7 c7 w7 HT7 HO7 HB7
               obtain ⟨hadd, hkeep⟩ := hT1.addX hb2 HO7.out ⟨HB7.out.1, HB7.out.2.1⟩
               have HU7 := (HB7.out.2.1 U lT2 (own_ne hT2.ownX hT2.u (by decide)).symm).trans hT2.u
               have l7 := lt_of_blk HU7
               have fu7 := cells2V HU7))
          go_roundw
          case rel =>
            refine ⟨j + 1, t7, A7, c7, by have := HN2.out; omega, rfl, Lib.hid hadd, Lib.hid ⟨hkeep _ _ _ _ hbx1 (by omega) (by decide), hkeep _ _ _ _ hbx2 (by omega) (by decide)⟩, Lib.hid ⟨?_, by rw [HT7.out, List.length_append, HM3.out.2]; rfl⟩⟩
            rw [HT7.out, HM3.out.1, hmore, List.map_append]
            simp [fewX]
          case measure => simp [intOf]; omega
        case neg =>
          have h8i : ¬ (9000 : Int) < (tx.length : Int) := by omega
          go_upto_region 18 with fail
          have hT1 := hT0
          have hs2 : (W1).heap[F]? = some (.cells #[.string (mkB cn), .bool mt, .string (mkB (tx)), .int .i64 at_] 76 (0, 0)) := hs
          have hbx1 : (W1).heap[T]? = _ := hbx1'
          have hbx2 : (W1).heap[T + 1]? = _ := hbx2'
          clear hT0 hs hbx1' hbx2' fs1
          generalize (W1) = W3 at *
          have fu := cells2V hT1.u
          have fs2c := cells4L hs2
          have hb2 : Below W3.heap.size W3 (W3.alloc (.cells #[.string (mkB cn), .bool mt, .string (mkB (tx)), .int .i64 at_] 76)) := (Below.refl _ _).alloc (Nat.le_refl _) _
          have hT2 := hT1.below hb2
          have hr2 := sc__one (w := W3.alloc (.cells #[.string (mkB cn), .bool mt, .string (mkB (tx)), .int .i64 at_] 76)) (C := W3.heap.size) (cn, mt, tx, at_) (heap_alloc_new _ _)
          have lU := lt_of_blk hT1.u
          have lF := lt_of_blk hs2
          have lT2 := lt_of_blk hT2.u
          have hlen3 : ss2.length ≤ 100000000 := by have := HM3.out.2; have := HN2.out; omega
          go_wp2_with (first
            | (at_builtin; refine wpList_append_x (base := w0.heap.size) (v := .slice A6 ss2.length c6) (xs := ss2) (news := [(cn, mt, tx, at_)]) rfl _ _ rfl rfl rfl hT2.ownX hr2 (fun h => by cases h) (by simp [sc_, Value.oneCell']) (by omega) (by simp) hT2.bel.size ?_
               intro A7 t7 c7 w7 HT7 HO7 HB7
               obtain ⟨hadd, hkeep⟩ := hT1.addX hb2 HO7.out ⟨HB7.out.1, HB7.out.2.1⟩
               have HU7 := (HB7.out.2.1 U lT2 (own_ne hT2.ownX hT2.u (by decide)).symm).trans hT2.u
               have l7 := lt_of_blk HU7
               have fu7 := cells2V HU7))
          go_roundw
          case rel =>
            refine ⟨j + 1, t7, A7, c7, by have := HN2.out; omega, rfl, Lib.hid hadd, Lib.hid ⟨hkeep _ _ _ _ hbx1 (by omega) (by decide), hkeep _ _ _ _ hbx2 (by omega) (by decide)⟩, Lib.hid ⟨?_, by rw [HT7.out, List.length_append, HM3.out.2]; rfl⟩⟩
            rw [HT7.out, HM3.out.1, hmore, List.map_append]
            simp [fewX, List.take_of_length_le (show tx.length ≤ 9000 by omega)]
          case measure => simp [intOf]; omega
    have hq : (i : Int) < (n1 : Int) := by omega
    have hlt : i < fs.length := by have := HN1.out; omega
    have hmore : (fs.take (i + 1)).map (fun x => fewK x.1) = (fs.take i).map (fun x => fewK x.1) ++ [fewK fs[i].1] := by rw [List.take_succ_eq_append_getElem hlt, List.map_append]; rfl
    obtain ⟨b, o, rfl, hbb, d0, d1, d2, d3⟩ := rdC_at (HRC.out.below HT.out.bel (Nat.le_refl _)) hlt
    obtain ⟨Af, cf, hvf, hfc, hAf, hrf⟩ := HFI.out fs[i] (List.getElem_mem hlt)
    obtain ⟨⟨⟨nm, sp, fl, at_⟩, vf⟩, hy⟩ : ∃ y, fs[i] = y := ⟨_, rfl⟩
    rw [hy] at d0 d1 d2 d3 hvf hfc hAf hrf hmore
    dsimp only at d0 d1 d2 d3 hvf hfc hAf hrf hmore
    subst hvf
    have hbw : b < wr.heap.size := Nat.lt_of_lt_of_le hbb HT.out.bel.size
    clear hy
    go_upto_region 9 with fail
    obtain ⟨W1, hW1⟩ : ∃ W1, wr.alloc (.cells #[.string (mkB nm), .string (mkB sp), .slice Af fl.length cf, .int .i64 at_] 75) = W1 := ⟨_, rfl⟩
    obtain ⟨F, hF⟩ : ∃ F, wr.heap.size = F := ⟨_, rfl⟩
    have hs : W1.heap[F]? = some (.cells #[.string (mkB nm), .string (mkB sp), .slice Af fl.length cf, .int .i64 at_] 75 (0, 0)) := by rw [← hW1, ← hF]; exact heap_alloc_new wr _
    have hb1 : Below wr.heap.size wr W1 := by rw [← hW1]; exact (Below.refl _ _).alloc (Nat.le_refl _) _
    have nC0 : (Value.slice A5 fs2.length c5).ownBlock ≠ some F := fun e => by have := (World.ownsRow.lt HT.out.ownC _ e).2; omega
    have hUF : U < F := by have := lt_of_blk HT.out.u; omega
    try rw [hW1]
    try simp only [hF]
    have hT0 := HT.out.below hb1
    have hbx1' := (hb1.block _ (lt_of_blk HX.out.1)).trans HX.out.1
    have hbx2' := (hb1.block _ (lt_of_blk HX.out.2)).trans HX.out.2
    have fs1 := cells4L hs
    have lF0 := lt_of_blk hs
    clear hW1 hb1 d0 d1 d2 d3
    by_cases h8 : 8 < fl.length
    case pos =>
      have h8i : (8 : Int) < (fl.length : Int) := by omega
      have h8j : (8 : Int) ≤ (cf : Int) := by omega
      go_upto_region 11 with fail
      have hT1 := (hT0.cell (F := F) 2 (.slice Af 8 cf) (by have := hT0.bel.size; have := HT.out.bel.size; omega) (by omega) nC0 (by rw [show (Value.slice none ([] : List Src).length 0).ownBlock = none from rfl]; exact fun h => by cases h))
      have hs2 : (W1.setCell ⟨F, 2, none⟩ (.slice Af 8 cf)).heap[F]? = some (.cells #[.string (mkB nm), .string (mkB sp), .slice Af 8 cf, .int .i64 at_] 75 (0, 0)) := heap_setCell_same _ F 2 _ _ _ hs
      have hbx1 : (W1.setCell ⟨F, 2, none⟩ (.slice Af 8 cf)).heap[T]? = _ := (Below.heap_setCell W1 ⟨F, 2, none⟩ _ T (show T ≠ F by omega)).trans hbx1'
      have hbx2 : (W1.setCell ⟨F, 2, none⟩ (.slice Af 8 cf)).heap[T + 1]? = _ := (Below.heap_setCell W1 ⟨F, 2, none⟩ _ (T + 1) (show T + 1 ≠ F by omega)).trans hbx2'
      clear hT0 hs hbx1' hbx2' fs1
      generalize (W1.setCell ⟨F, 2, none⟩ (.slice Af 8 cf)) = W3 at *
      have fu := cells2V hT1.u
      have fs2c := cells4L hs2
      have hb2 : Below W3.heap.size W3 (W3.alloc (.cells #[.string (mkB nm), .string (mkB sp), .slice Af 8 cf, .int .i64 at_] 75)) := (Below.refl _ _).alloc (Nat.le_refl _) _
      have hT2 := hT1.below hb2
      have hr2 := cc__one (w := W3.alloc (.cells #[.string (mkB nm), .string (mkB sp), .slice Af 8 cf, .int .i64 at_] 75)) (C := W3.heap.size) ((nm, sp, fl.take 8, at_), .slice Af 8 cf) (heap_alloc_new _ _)
      have lU := lt_of_blk hT1.u
      have lF := lt_of_blk hs2
      have lT2 := lt_of_blk hT2.u
      have hlen3 : fs2.length ≤ 100000000 := by have := HM.out.2; have := HN1.out; omega
      go_wp2_with (first
        | (at_builtin; refine wpList_append_y (base := w0.heap.size) (v := .slice A5 fs2.length c5) (xs := fs2) (news := [((nm, sp, fl.take 8, at_), .slice Af 8 cf)]) rfl _ _ rfl rfl rfl hT2.ownC hr2 (fun h => by cases h) (by simp [cc_, Value.oneCell']) (by omega) (by simp) hT2.bel.size ?_
           intro A7 t7 c7 w7 HT7 HO7 HB7
           obtain ⟨hadd, hkeep⟩ := hT1.addY hb2 HO7.out ⟨HB7.out.1, HB7.out.2.1⟩
           have HU7 := (HB7.out.2.1 U lT2 (own_ne hT2.ownC hT2.u (by decide)).symm).trans hT2.u
           have l7 := lt_of_blk HU7
           have fu7 := cells2V HU7))
      go_roundw
      case rel =>
        refine ⟨i + 1, t7, A7, c7, by have := HN1.out; omega, rfl, Lib.hid hadd, Lib.hid ⟨hkeep _ _ _ _ hbx1 (by omega) (by decide), hkeep _ _ _ _ hbx2 (by omega) (by decide)⟩, Lib.hid ⟨?_, by rw [HT7.out, List.length_append, HM.out.2]; rfl⟩, Lib.hid ?_⟩
        · rw [HT7.out, List.map_append, HM.out.1, hmore]
          simp [fewK, h8]
        · intro x hx
          rw [HT7.out] at hx
          rcases List.mem_append.1 hx with h | h
          · exact HF.out x h
          · obtain rfl := List.mem_singleton.1 h
            exact ⟨Af, cf, by simp; omega, by simp; omega, fun h => by have := hAf h; simp; omega, by simpa [cs_] using hrf.take_ 8⟩
      case measure => simp [intOf]; omega
    case neg =>
      have h8i : ¬ (8 : Int) < (fl.length : Int) := by omega
      go_upto_region 11 with fail
      have hT1 := hT0
      have hs2 : (W1).heap[F]? = some (.cells #[.string (mkB nm), .string (mkB sp), .slice Af fl.length cf, .int .i64 at_] 75 (0, 0)) := hs
      have hbx1 : (W1).heap[T]? = _ := hbx1'
      have hbx2 : (W1).heap[T + 1]? = _ := hbx2'
      clear hT0 hs hbx1' hbx2' fs1
      generalize (W1) = W3 at *
      have fu := cells2V hT1.u
      have fs2c := cells4L hs2
      have hb2 : Below W3.heap.size W3 (W3.alloc (.cells #[.string (mkB nm), .string (mkB sp), .slice Af fl.length cf, .int .i64 at_] 75)) := (Below.refl _ _).alloc (Nat.le_refl _) _
      have hT2 := hT1.below hb2
      have hr2 := cc__one (w := W3.alloc (.cells #[.string (mkB nm), .string (mkB sp), .slice Af fl.length cf, .int .i64 at_] 75)) (C := W3.heap.size) ((nm, sp, fl, at_), .slice Af fl.length cf) (heap_alloc_new _ _)
      have lU := lt_of_blk hT1.u
      have lF := lt_of_blk hs2
      have lT2 := lt_of_blk hT2.u
      have hlen3 : fs2.length ≤ 100000000 := by have := HM.out.2; have := HN1.out; omega
      go_wp2_with (first
        | (at_builtin; refine wpList_append_y (base := w0.heap.size) (v := .slice A5 fs2.length c5) (xs := fs2) (news := [((nm, sp, fl, at_), .slice Af fl.length cf)]) rfl _ _ rfl rfl rfl hT2.ownC hr2 (fun h => by cases h) (by simp [cc_, Value.oneCell']) (by omega) (by simp) hT2.bel.size ?_
           intro A7 t7 c7 w7 HT7 HO7 HB7
           obtain ⟨hadd, hkeep⟩ := hT1.addY hb2 HO7.out ⟨HB7.out.1, HB7.out.2.1⟩
           have HU7 := (HB7.out.2.1 U lT2 (own_ne hT2.ownC hT2.u (by decide)).symm).trans hT2.u
           have l7 := lt_of_blk HU7
           have fu7 := cells2V HU7))
      go_roundw
      case rel =>
        refine ⟨i + 1, t7, A7, c7, by have := HN1.out; omega, rfl, Lib.hid hadd, Lib.hid ⟨hkeep _ _ _ _ hbx1 (by omega) (by decide), hkeep _ _ _ _ hbx2 (by omega) (by decide)⟩, Lib.hid ⟨?_, by rw [HT7.out, List.length_append, HM.out.2]; rfl⟩, Lib.hid ?_⟩
        · rw [HT7.out, List.map_append, HM.out.1, hmore]
          simp [fewK, List.take_of_length_le (show fl.length ≤ 8 by omega)]
        · intro x hx
          rw [HT7.out] at hx
          rcases List.mem_append.1 hx with h | h
          · exact HF.out x h
          · obtain rfl := List.mem_singleton.1 h
            exact ⟨Af, cf, rfl, hfc, hAf, hrf⟩
      case measure => simp [intOf]; omega
end Go.Proofs.YtmdkneollidkfaaGreatDoor.Fl
