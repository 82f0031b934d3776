/-
  Contracts of package pack's numbers: appendBytes, byteCount, Put; the document's Copy and Put.
-/
import Derived.Test.YthklbpcpmmpfmaaBitsB
import Derived.Laws.CopyOwn
import Derived.Laws.AppendOwnNone
namespace Go.Proofs.Ythklbpcpmmpfmaa.Fl
open Go.RowKit

/-- a number's lowest n bytes, the lowest first -/
def le (x : Nat) : Nat → List UInt8
  | 0 => []
  | n + 1 => UInt8.ofNat (x % 256) :: le (x / 256) n
theorem le_len (x n : Nat) : (le x n).length = n := by
  induction n generalizing x with
  | zero => rfl
  | succ n ih => simp [le, ih]
theorem le_snoc (x n : Nat) : le x (n + 1) = le x n ++ [UInt8.ofNat (x / 256 ^ n % 256)] := by
  induction n generalizing x with
  | zero => simp [le]
  | succ n ih =>
    have h1 : le x (n + 1 + 1) = UInt8.ofNat (x % 256) :: le (x / 256) (n + 1) := rfl
    have h2 : le x (n + 1) = UInt8.ofNat (x % 256) :: le (x / 256) n := rfl
    rw [h1, h2, ih, List.cons_append, Nat.div_div_eq_div_mul, Nat.pow_succ, Nat.mul_comm 256]
theorem byte_of (x : Nat) : ((UInt8.ofNat (x % 256)).toNat : Int) = (x : Int) % 256 := by
  rw [UInt8.toNat_ofNat', show x % 256 % 2 ^ 8 = x % 256 by omega]; omega
theorem u8info : (Try.prog.info? 5).map (fun i => (i.zero, i.size, i.bytes)) = some (some (.int .u8 0), 1, 1) := by kernel_rfl
/-- bytes in memory of the call's own -/
def Own (w : World) (base : Nat) (v : Value) (xs : List UInt8) : Prop := w.ownsRow base 5 1 v xs.length (cb xs)
theorem pow8 (k : Nat) : 2 ^ (8 * k) = 256 ^ k := by rw [Nat.pow_mul]
theorem pow_mul_cast (k : Nat) : (2 : Int) ^ (8 * k) = ((256 ^ k : Nat) : Int) := by rw [← pow8]; simp
theorem Own.alloc {w : World} {base : Nat} {v : Value} {xs : List UInt8} (h : Own w base v xs) (o : Obj) : Own (w.alloc o) base v xs := World.ownsRow.alloc h o
theorem cb_oneCell (xs : List UInt8) : ∀ u ∈ cb xs, u.oneCell' = true := by
  intro u hu; simp [cb] at hu; obtain ⟨c, _, rfl⟩ := hu; rfl
theorem own_push {w' : World} {base : Nat} {v : Value} {xs : List UInt8} {c : UInt8} (h : w'.ownsRow base 5 1 v (xs.length + 1) (cb xs ++ [.int .u8 (c.toNat : Int)])) : Own w' base v (xs ++ [c]) := by
  unfold Own; rw [cb_append]; simpa [cb] using h
theorem own_le {w' : World} {base : Nat} {v : Value} {xs : List UInt8} {x k : Nat} (h : w'.ownsRow base 5 1 v (xs.length + (le x k).length + 1) (cb (xs ++ le x k) ++ [.int .u8 ((x : Int) / 2 ^ (8 * k) % 256)])) : Own w' base v (xs ++ le x (k + 1)) := by
  rw [le_snoc, ← List.append_assoc]
  refine own_push ?_
  rw [byte_of, Int.natCast_ediv, ← pow_mul_cast, List.length_append]
  exact h

theorem Own.lt {w : World} {base : Nat} {v : Value} {xs : List UInt8} (h : Own w base v xs) (k : Nat) (hk : v.ownBlock = some k) : base ≤ k := (World.ownsRow.lt h k hk).1
theorem lone_cell (wr : World) (u : Value) (t : TypeId) (j : Nat) (u' : Value) (hj : [u][j]? = some u') : (wr.alloc (.cells #[u] t)).cell? ((⟨wr.heap.size, 0, none⟩ : Addr).add j) = some u' := by
  match j, hj with
  | 0, hj => simp at hj; subst hj; simp [Addr.add]
theorem lone_one (z : Int) : ∀ u ∈ [Value.int .u8 z], u.oneCell' = true := by
  intro u hu; simp at hu; subst hu; rfl
def AppPost (base : Nat) (xs : List UInt8) (x n : Nat) (w : World) (e : Ending) (w' : World) : Prop := ∃ v', e = .returned v' ∧ Own w' base v' (xs ++ le x n) ∧ Below base w w'
theorem retP_i64 {a b : Int} (h : a = b) : Ending.returned (.int .i64 a) = .returned (.int .i64 b) := by rw [h]
/-- zero bytes -/
def zb (k : Nat) : List UInt8 := List.replicate k 0
theorem zb_made (k : Nat) : madeCells #[Value.int .u8 0] (k * 1) = (cb (zb k)).toArray := by
  apply Array.toList_inj.1
  rw [toList_madeCells_one]; simp [cb, zb]
theorem u8size : (Try.prog.info? 5).map (·.size) = some 1 := by kernel_rfl
theorem wpList_make_run {P : Program} (w w2 : World) {ops : Array Oper} {rest : List Oper} {o : Oper} {a : Act} {Q : Exit → Act → World → Prop} (hg : o.guard = none) (l c : Operand) (t : TypeId) (hop : o.op = Op.makeSlice t l c)
    (vl vc u : Value) (hl : a.eval l = vl) (hc : a.eval c = vc) (hrun : (Instr.makeSlice t vl vc).run P w = .ok u w2) (hK : wpList P ops Q rest (a.put o.dst u) w2) : wpList P ops Q (o :: rest) a w := by
  refine wpList_plain hg fun K hK' => ?_
  unfold Oper.wp
  simp [execOp, hop, hl, hc, hrun, Result.andThen]
  exact hK' _ _ hK
theorem own_spliced {w : World} {g m : Nat} {xs : List UInt8} (base : Nat) (hg : w.heap[g]? = some (.cells (splice (cb (zb (xs.length + m))) 0 (cb xs)).toArray 5 (0, 0))) (hb : base ≤ g) (hm : xs.length + m ≤ maxLen) : Own w base (.slice (some ⟨g, 0, none⟩) xs.length (xs.length + m)) xs := by
  refine ⟨by simp [cb], .inr ⟨g, _, _, rfl, hb, hg, by omega, hm, ?_, ?_⟩⟩
  · rw [List.size_toArray, length_splice _ _ _ (by simp [cb, zb])]; simp [cb, zb]
  · simp [splice, cb]
theorem rd_pos {w : World} {B : Nat} {A : Option Addr} {vs : List Value} (hr : Rd w B A vs) (h0 : 0 < vs.length) : ∃ ad, A = some ad ∧ ∀ j v, vs[j]? = some v → w.cell? (ad.add j) = some v := by
  rcases hr with h | ⟨b, off, rfl, hb, hc⟩
  · rw [h] at h0; simp at h0
  · exact ⟨_, rfl, fun j v hj => by rw [show (⟨b, off, none⟩ : Addr).add j = ⟨b, off + j, none⟩ from by simp [Addr.add]]; exact hc j v hj⟩
/-- the document's Copy -/
def CopyPost (xs : List UInt8) (w : World) (e : Ending) (w' : World) : Prop := ∃ v', e = .returned v' ∧ Own w' w.heap.size v' xs ∧ Below w.heap.size w w'
theorem own_empty (w : World) : Own (w.alloc (.cells #[] 5)) w.heap.size (.slice (some ⟨w.heap.size, 0, none⟩) 0 0) [] :=
  ⟨rfl, .inr ⟨w.heap.size, 0, #[], rfl, Nat.le_refl _, heap_alloc_new w _, Nat.le_refl _, by unfold maxLen; omega, rfl, rfl⟩⟩
theorem rd_ad {w : World} {B : Nat} {ad : Addr} {vs : List Value} (hr : Rd w B (some ad) vs) : ∀ j v, vs[j]? = some v → w.cell? (ad.add j) = some v := by
  intro j v hj
  obtain ⟨ad', h1, h2⟩ := rd_pos hr (by rcases Nat.eq_zero_or_pos vs.length with h | h
                                        · rw [List.eq_nil_of_length_eq_zero h] at hj; simp at hj
                                        · exact h)
  obtain rfl : ad = ad' := by simpa using h1
  exact h2 j v hj
theorem own_rd {w : World} {base : Nat} {v : Value} {xs : List UInt8} (h : Own w base v xs) :
    ∃ A c, v = .slice A xs.length c ∧ Rd w w.heap.size A (cb xs) ∧ (A = none → xs = [] ∧ c = 0) := by
  rcases h.2 with ⟨rfl, h0⟩ | ⟨g, cap, cur, rfl, hb, hg, hnc, hcm, hcs, htake⟩
  · have : xs = [] := List.eq_nil_of_length_eq_zero h0
    subst this
    exact ⟨none, 0, rfl, Rd.nil _ _ _, fun _ => ⟨rfl, rfl⟩⟩
  · refine ⟨_, _, rfl, .inr ⟨g, 0, rfl, ?_, fun j v hj => ?_⟩, fun h => by cases h⟩
    · rcases Nat.lt_or_ge g w.heap.size with h1 | h1
      · exact h1
      · rw [Array.getElem?_eq_none h1] at hg; cases hg
    · rw [Nat.zero_add, cell_of_row w g j cur _ _ hg, ← hj, ← htake]
      have : j < (cb xs).length := by
        rcases Nat.lt_or_ge j (cb xs).length with h1 | h1
        · exact h1
        · rw [List.getElem?_eq_none h1] at hj; cases hj
      rw [List.getElem?_take, if_pos (by rw [cb_len] at this; omega)]; simp
theorem own_ley {w' : World} {base : Nat} {v : Value} {xs : List UInt8} {x k y : Nat} (hy : y = x / 256 ^ k) (h : w'.ownsRow base 5 1 v (xs.length + (le x k).length + 1) (cb (xs ++ le x k) ++ [.int .u8 ((y : Int) % 256)])) : Own w' base v (xs ++ le x (k + 1)) := by
  rw [le_snoc, ← List.append_assoc]
  refine own_push ?_
  rw [byte_of, ← hy, List.length_append]
  exact h
theorem div_w {x k y : Nat} (hx : x < 18446744073709551616) (hy : y = x / 256 ^ k) : IntKind.u64.wrap ((y : Int) / 256) = (y : Int) / 256 := by
  have h1 : y ≤ x := by rw [hy]; exact Nat.div_le_self _ _
  simp only [IntKind.wrap_u64]
  omega
end Go.Proofs.Ythklbpcpmmpfmaa.Fl
