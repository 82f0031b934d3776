/-
  Contracts of package pack's words: Words, Unwords; the document's Words, Unwords, Same.
-/
import Derived.Test.YthklbpcpmmpfmaaDoorSpare
import Derived.Test.YthklbpcpmmpfmaaDoorWkPackNumbers
namespace Go.Proofs.YthklbpcpmmpfmaaDoor.Fl
open Go.RowKit

/-- words as bytes -/
def wb : List Nat → List UInt8
  | [] => []
  | x :: xs => le x 8 ++ wb xs
theorem wb_snoc (l : List Nat) (x : Nat) : wb (l ++ [x]) = wb l ++ le x 8 := by
  induction l with
  | nil => simp [wb]
  | cons a t ih => rw [List.cons_append, wb, ih, wb, List.append_assoc]
theorem wb_len (l : List Nat) : (wb l).length = 8 * l.length := by
  induction l with
  | nil => rfl
  | cons a t ih => rw [wb, List.length_append, le_len, ih, List.length_cons]; omega
theorem wb_take {l : List Nat} {k : Nat} (h : k < l.length) : wb (l.take (k + 1)) = wb (l.take k) ++ le l[k] 8 := by
  rw [List.take_succ_eq_append_getElem h, wb_snoc]
theorem leNat_le (x n : Nat) : leNat (le x n) = x % 256 ^ n := by
  induction n generalizing x with
  | zero => simp [leNat, le, Nat.mod_one]
  | succ n ih =>
    rw [le, leNat, ih, UInt8.toNat_ofNat', show x % 256 % 2 ^ 8 = x % 256 by omega, Nat.pow_succ, Nat.mul_comm (256 ^ n) 256, Nat.mod_mul]
/-- bytes as words -/
def uw (xs : List UInt8) (k : Nat) : List Nat := (List.range k).map fun i => leNat ((xs.drop (8 * i)).take 8)
theorem uw_len (xs : List UInt8) (k : Nat) : (uw xs k).length = k := by simp [uw]
theorem uw_succ (xs : List UInt8) (k : Nat) : uw xs (k + 1) = uw xs k ++ [leNat ((xs.drop (8 * k)).take 8)] := by simp [uw, List.range_succ]
theorem wb_drop (l : List Nat) (k : Nat) (h : k < l.length) : ((wb l).drop (8 * k)).take 8 = le l[k] 8 := by
  induction l generalizing k with
  | nil => simp at h
  | cons a t ih =>
    cases k with
    | zero => rw [wb, Nat.mul_zero, List.drop_zero, List.take_append_of_le_length (by rw [le_len]; omega), List.take_of_length_le (by rw [le_len]; omega)]; rfl
    | succ k =>
      rw [wb, show 8 * (k + 1) = 8 + 8 * k by omega, ← List.drop_drop, List.drop_append_of_le_length (by rw [le_len]; omega), show List.drop 8 (le a 8) = [] from List.drop_of_length_le (by rw [le_len]; omega), List.nil_append, ih k (by simpa using h)]
      rfl
theorem uw_wb (l : List Nat) (hl : ∀ x ∈ l, x < 18446744073709551616) : uw (wb l) l.length = l := by
  apply List.ext_getElem (by rw [uw_len])
  intro i h1 h2
  simp only [uw, List.getElem_map, List.getElem_range]
  rw [wb_drop l i h2, leNat_le, Nat.mod_eq_of_lt (Nat.lt_of_lt_of_le (hl _ (List.getElem_mem h2)) (by decide))]
theorem uw_lt (xs : List UInt8) (k : Nat) : ∀ x ∈ uw xs k, x < 18446744073709551616 := by
  intro x hx
  simp only [uw, List.mem_map] at hx
  obtain ⟨i, _, rfl⟩ := hx
  have h := leNat_lt ((xs.drop (8 * i)).take 8)
  have h2 : 256 ^ ((xs.drop (8 * i)).take 8).length ≤ 256 ^ 8 := Nat.pow_le_pow_right (by decide) (by simp; omega)
  have h3 : (256 : Nat) ^ 8 = 18446744073709551616 := by decide
  omega
/-- words in memory of the call's own -/
def OwnW (w : World) (base : Nat) (v : Value) (ws : List Nat) : Prop := w.ownsRow base 48 1 v ws.length (cw ws)
theorem Own.le {w : World} {base base' : Nat} {v : Value} {xs : List UInt8} (h : Own w base v xs) (hb : base' ≤ base) : Own w base' v xs :=
  ⟨h.1, h.2.elim .inl fun ⟨g, cap, cur, hv, hbg, r⟩ => .inr ⟨g, cap, cur, hv, Nat.le_trans hb hbg, r⟩⟩
theorem rdw_at {w : World} {B : Nat} {A : Option Addr} {ws : List Nat} (h : Rd w B A (cw ws)) {k : Nat} (hk : k < ws.length) :
    ∃ b off, A = some ⟨b, off, none⟩ ∧ b < B ∧ w.cell? ⟨b, off + k, none⟩ = some (.int .u64 (ws[k] : Int)) := by
  obtain ⟨b, off, hA, hb, hc⟩ := h.at_ (k := k) (by rw [cw_len]; exact hk)
  refine ⟨b, off, hA, hb, ?_⟩
  rw [hc]; simp [cw]
theorem own_nilb (w : World) (base : Nat) : Own w base (.slice none 0 0) [] := ⟨rfl, .inl ⟨rfl, rfl⟩⟩
def WordsPost (ws : List Nat) (w : World) (e : Ending) (w' : World) : Prop := ∃ v', e = .returned v' ∧ Own w' w.heap.size v' (wb ws) ∧ Below w.heap.size w w'
theorem cw_one (ws : List Nat) : ∀ u ∈ cw ws, u.oneCell' = true := by
  intro u hu; simp [cw] at hu; obtain ⟨x, _, rfl⟩ := hu; rfl
theorem ownw_rd {w : World} {base : Nat} {v : Value} {ws : List Nat} (h : OwnW w base v ws) :
    ∃ A c, v = .slice A ws.length c ∧ Rd w w.heap.size A (cw ws) ∧ (A = none → ws = [] ∧ c = 0) := by
  rcases h.2 with ⟨rfl, h0⟩ | ⟨g, cap, cur, rfl, hb, hg, hnc, hcm, hcs, htake⟩
  · have : ws = [] := List.eq_nil_of_length_eq_zero h0
    subst this
    exact ⟨none, 0, rfl, Rd.nil _ _ _, fun _ => ⟨rfl, rfl⟩⟩
  · refine ⟨_, _, rfl, .inr ⟨g, 0, rfl, ?_, fun j v hj => ?_⟩, fun h => by cases h⟩
    · rcases Nat.lt_or_ge g w.heap.size with h1 | h1
      · exact h1
      · rw [Array.getElem?_eq_none h1] at hg; cases hg
    · rw [Nat.zero_add, cell_of_row w g j cur _ _ hg, ← hj, ← htake]
      have : j < (cw ws).length := by
        rcases Nat.lt_or_ge j (cw ws).length with h1 | h1
        · exact h1
        · rw [List.getElem?_eq_none h1] at hj; cases hj
      rw [List.getElem?_take, if_pos (by rw [cw_len] at this; omega)]; simp
theorem OwnW.below {w w' : World} {base : Nat} {v : Value} {ws : List Nat} (h : OwnW w base v ws) (hb : Below w.heap.size w w') : OwnW w' base v ws := by
  refine ⟨h.1, h.2.elim .inl fun ⟨g, cap, cur, hv, hbg, hg, r⟩ => .inr ⟨g, cap, cur, hv, hbg, ?_, r⟩⟩
  have hlt : g < w.heap.size := by
    rcases Nat.lt_or_ge g w.heap.size with h1 | h1
    · exact h1
    · rw [Array.getElem?_eq_none h1] at hg; cases hg
  rw [hb.block g hlt]; exact hg
theorem ownw_set {w : World} {base g n cap : Nat} {L : List Nat} (h : OwnW w base (.slice (some ⟨g, 0, none⟩) n cap) L) (hn : L.length = n) (j x : Nat) : OwnW (w.setCell ⟨g, j, none⟩ (.int .u64 (x : Int))) base (.slice (some ⟨g, 0, none⟩) n cap) (L.set j x) := by
  subst hn
  have := (World.ownsRow.stored h j (.int .u64 (x : Int))).1
  unfold OwnW
  rw [List.length_set]
  have e : cw (L.set j x) = (cw L).set j (.int .u64 (x : Int)) := by unfold cw; rw [List.map_set]
  rw [e]; exact this
theorem ownw_cell {w : World} {base g n cap : Nat} {L : List Nat} (h : OwnW w base (.slice (some ⟨g, 0, none⟩) n cap) L) (hn : L.length = n) {j : Nat} (hj : j < L.length) : w.cell? ⟨g, j, none⟩ = some (.int .u64 (L[j] : Int)) := by
  subst hn
  rw [World.ownsRow.cellAt h j (by omega), cw_at _ _ hj]
theorem ownw_free {w : World} {base g n cap : Nat} {L : List Nat} (h : OwnW w base (.slice (some ⟨g, 0, none⟩) n cap) L) (hn : L.length = n) (j : Nat) : w.frozen? ⟨g, j, none⟩ = false := by
  subst hn; exact World.ownsRow.frozenAt h j
theorem ownw_zero (w : World) (n : Nat) (h : n ≤ maxLen) : OwnW (w.alloc (.cells (cw (List.replicate n 0)).toArray 48)) w.heap.size (.slice (some ⟨w.heap.size, 0, none⟩) n n) (List.replicate n 0) := by
  unfold OwnW
  rw [List.length_replicate]
  exact ⟨by simp [cw], .inr ⟨_, _, _, rfl, Nat.le_refl _, heap_alloc_new w _, Nat.le_refl _, h, by simp [cw], by rw [List.take_of_length_le (by simp [cw])]⟩⟩
theorem make_words (w : World) (n : Nat) (h : n ≤ 20000) :
    (Instr.makeSlice 41 (.int .i64 (n : Int)) (.int .i64 (n : Int))).run Tryd.prog w = .ok (.slice (some ⟨w.heap.size, 0, none⟩) n n) (w.alloc (.cells (cw (List.replicate n 0)).toArray 48)) := by
  have hmk := run_make_row' (P := Tryd.prog) 41 48 (.int .u64 0) 8 Tryd.underlying41 u64info rfl .i64 .i64 n (by omega) (by omega) w
  rw [hmk, made_eq]
theorem wpList_make_words (w : World) {ops : Array Oper} {rest : List Oper} {o : Oper} {a : Act} {Q : Exit → Act → World → Prop} (hg : o.guard = none) (l c : Operand) (hop : o.op = Op.makeSlice 41 l c)
    (n : Nat) {z : Int} (hz : z = (n : Int)) (hl : a.eval l = .int .i64 z) (hc : a.eval c = .int .i64 z) (h : n ≤ 20000)
    (hK : ∀ w', Hid (OwnW w' w.heap.size (.slice (some ⟨w.heap.size, 0, none⟩) n n) (List.replicate n 0)) → Below w.heap.size w w' → w.heap.size < w'.heap.size → wpList Tryd.prog ops Q rest (a.put o.dst (.slice (some ⟨w.heap.size, 0, none⟩) n n)) w') :
    wpList Tryd.prog ops Q (o :: rest) a w := by
  subst hz
  exact wpList_make_run w _ hg l c _ hop _ _ _ hl hc (make_words w n h) (hK _ (ownw_zero w _ (by unfold maxLen; omega)) ((Below.refl _ _).alloc (Nat.le_refl _) _) (by simp))
theorem uw_set {xs : List UInt8} {k n : Nat} (h : k < n) : (uw xs k ++ List.replicate (n - k) 0).set k (leNat ((xs.drop (8 * k)).take 8)) = uw xs (k + 1) ++ List.replicate (n - (k + 1)) 0 := by
  rw [List.set_append_right _ _ (by rw [uw_len]; omega), uw_len, Nat.sub_self, show n - k = (n - (k + 1)) + 1 by omega, List.replicate_succ, List.set_cons_zero, uw_succ, List.append_assoc]; rfl
/-- what Unwords answers -/
def UnwPost (xs : List UInt8) (w : World) (e : Ending) (w' : World) : Prop := ∃ v' r, e = .returned (.tuple #[v', .int .i64 r]) ∧ Below w.heap.size w w' ∧
  if xs.length % 8 = 0 then r = 0 ∧ OwnW w' w.heap.size v' (uw xs (xs.length / 8)) else r = 2 ∧ v' = .slice none 0 0
theorem ownw_push {w' : World} {base : Nat} {v : Value} {ws : List Nat} {x : Nat} (h : w'.ownsRow base 48 1 v (ws.length + 1) (cw ws ++ [.int .u64 (x : Int)])) : OwnW w' base v (ws ++ [x]) := by
  have e : cw (ws ++ [x]) = cw ws ++ [.int .u64 (x : Int)] := by simp [cw]
  unfold OwnW; rw [e, List.length_append]; exact h
theorem OwnW.lt {w : World} {base : Nat} {v : Value} {xs : List Nat} (h : OwnW w base v xs) (k : Nat) (hk : v.ownBlock = some k) : base ≤ k := (World.ownsRow.lt h k hk).1
theorem lone_onew (z : Int) : ∀ u ∈ [Value.int .u64 z], u.oneCell' = true := by
  intro u hu; simp at hu; subst hu; rfl
theorem ownw_nil (w : World) (base : Nat) : OwnW w base (.slice none 0 0) [] := ⟨rfl, .inl ⟨rfl, rfl⟩⟩
theorem res_eight {xs : List UInt8} {k : Nat} (h : 8 * k + 8 ≤ xs.length) : resNum (xs.drop (8 * k)) 8 = leNat ((xs.drop (8 * k)).take 8) := by
  unfold resNum; rw [if_neg (by simp; omega)]
def RUnwPost (xs : List UInt8) (w : World) (e : Ending) (w' : World) : Prop := ∃ v' b, e = .returned (.tuple #[v', .bool b]) ∧ Below w.heap.size w w' ∧
  if xs.length % 8 = 0 then b = true ∧ OwnW w' w.heap.size v' (uw xs (xs.length / 8)) else b = false ∧ v' = .slice none 0 0
end Go.Proofs.YthklbpcpmmpfmaaDoor.Fl
