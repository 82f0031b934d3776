/-
  Contracts of package pack's numbers: appendBytes, byteCount, Put; the document's Copy and Put.
-/
import Derived.Test.YtlmelfakmllinaaPBits
import Derived.Laws.CopyOwn
import Derived.Laws.AppendOwnNone
import Derived.Lib.SlBytesConst
import Derived.Laws.BytesArg
import Derived.Laws.BytesString
import Derived.WalkSpells
namespace Go.Proofs.Ytlmelfakmllinaa.Fl
open Go.RowKit

/-- a number's lowest n bytes, the lowest first -/
def le (x : Nat) : Nat → List UInt8
  | 0 => []
  | n + 1 => UInt8.ofNat (x % 256) :: le (x / 256) n
theorem le_len (x n : Nat) : (le x n).length = n := by
  induction n generalizing x with
  | zero => rfl
  | succ n ih => simp [le, ih]
theorem le_snoc (x n : Nat) : le x (n + 1) = le x n ++ [UInt8.ofNat (x / 256 ^ n % 256)] := by
  induction n generalizing x with
  | zero => simp [le]
  | succ n ih =>
    have h1 : le x (n + 1 + 1) = UInt8.ofNat (x % 256) :: le (x / 256) (n + 1) := rfl
    have h2 : le x (n + 1) = UInt8.ofNat (x % 256) :: le (x / 256) n := rfl
    rw [h1, h2, ih, List.cons_append, Nat.div_div_eq_div_mul, Nat.pow_succ, Nat.mul_comm 256]
theorem byte_of (x : Nat) : ((UInt8.ofNat (x % 256)).toNat : Int) = (x : Int) % 256 := by
  rw [UInt8.toNat_ofNat', show x % 256 % 2 ^ 8 = x % 256 by omega]; omega
theorem u8info : (Try.prog.info? 5).map (fun i => (i.zero, i.size, i.bytes)) = some (some (.int .u8 0), 1, 1) := by kernel_rfl
/-- bytes in memory of the call's own -/
def Own (w : World) (base : Nat) (v : Value) (xs : List UInt8) : Prop := w.ownsRow base 5 1 v xs.length (cb xs)
theorem pow8 (k : Nat) : 2 ^ (8 * k) = 256 ^ k := by rw [Nat.pow_mul]
theorem pow_mul_cast (k : Nat) : (2 : Int) ^ (8 * k) = ((256 ^ k : Nat) : Int) := by rw [← pow8]; simp
theorem Own.alloc {w : World} {base : Nat} {v : Value} {xs : List UInt8} (h : Own w base v xs) (o : Obj) : Own (w.alloc o) base v xs := World.ownsRow.alloc h o
theorem cb_oneCell (xs : List UInt8) : ∀ u ∈ cb xs, u.oneCell' = true := by
  intro u hu; simp [cb] at hu; obtain ⟨c, _, rfl⟩ := hu; rfl
theorem own_push {w' : World} {base : Nat} {v : Value} {xs : List UInt8} {c : UInt8} (h : w'.ownsRow base 5 1 v (xs.length + 1) (cb xs ++ [.int .u8 (c.toNat : Int)])) : Own w' base v (xs ++ [c]) := by
  unfold Own; rw [cb_append]; simpa [cb] using h
theorem own_le {w' : World} {base : Nat} {v : Value} {xs : List UInt8} {x k : Nat} (h : w'.ownsRow base 5 1 v (xs.length + (le x k).length + 1) (cb (xs ++ le x k) ++ [.int .u8 ((x : Int) / 2 ^ (8 * k) % 256)])) : Own w' base v (xs ++ le x (k + 1)) := by
  rw [le_snoc, ← List.append_assoc]
  refine own_push ?_
  rw [byte_of, Int.natCast_ediv, ← pow_mul_cast, List.length_append]
  exact h

theorem Own.lt {w : World} {base : Nat} {v : Value} {xs : List UInt8} (h : Own w base v xs) (k : Nat) (hk : v.ownBlock = some k) : base ≤ k := (World.ownsRow.lt h k hk).1
theorem lone_cell (wr : World) (u : Value) (t : TypeId) (j : Nat) (u' : Value) (hj : [u][j]? = some u') : (wr.alloc (.cells #[u] t)).cell? ((⟨wr.heap.size, 0, none⟩ : Addr).add j) = some u' := by
  match j, hj with
  | 0, hj => simp at hj; subst hj; simp [Addr.add]
theorem lone_one (z : Int) : ∀ u ∈ [Value.int .u8 z], u.oneCell' = true := by
  intro u hu; simp at hu; subst hu; rfl
def AppPost (base : Nat) (xs : List UInt8) (x n : Nat) (w : World) (e : Ending) (w' : World) : Prop := ∃ v', e = .returned v' ∧ Own w' base v' (xs ++ le x n) ∧ Below base w w'
theorem retP_i64 {a b : Int} (h : a = b) : Ending.returned (.int .i64 a) = .returned (.int .i64 b) := by rw [h]
/-- zero bytes -/
def zb (k : Nat) : List UInt8 := List.replicate k 0
theorem zb_made (k : Nat) : madeCells #[Value.int .u8 0] (k * 1) = (cb (zb k)).toArray := by
  apply Array.toList_inj.1
  rw [toList_madeCells_one]; simp [cb, zb]
theorem u8size : (Try.prog.info? 5).map (·.size) = some 1 := by kernel_rfl
theorem make_bytes (w : World) (l m : Nat) (h : l + m ≤ 200000) :
    (Instr.makeSlice 32 (.int .i64 (l : Int)) (.int .i64 ((l : Int) + (m : Int)))).run Try.prog w = .ok (.slice (some ⟨w.heap.size, 0, none⟩) l (l + m)) (w.alloc (.cells (cb (zb (l + m))).toArray 5)) := by
  obtain ⟨i0, hi, hz0, hz1, hz2⟩ := info_parts u8info
  have hmk := run_make (P := Try.prog) w 32 5 i0 (.int .u8 0) Try.underlying32 hi hz0 .i64 .i64 (l : Int) ((l : Int) + (m : Int)) (by omega) (by omega) (by rw [hz2]; omega) (by omega)
  rw [hmk, hz1, show ((l : Int) + (m : Int)).toNat = l + m by omega, show (Value.int .u8 0).cells = #[Value.int .u8 0] from rfl, zb_made, Int.toNat_natCast]
theorem wpList_make_run {P : Program} (w w2 : World) {ops : Array Oper} {rest : List Oper} {o : Oper} {a : Act} {Q : Exit → Act → World → Prop} (hg : o.guard = none) (l c : Operand) (t : TypeId) (hop : o.op = Op.makeSlice t l c)
    (vl vc u : Value) (hl : a.eval l = vl) (hc : a.eval c = vc) (hrun : (Instr.makeSlice t vl vc).run P w = .ok u w2) (hK : wpList P ops Q rest (a.put o.dst u) w2) : wpList P ops Q (o :: rest) a w := by
  refine wpList_plain hg fun K hK' => ?_
  unfold Oper.wp
  simp [execOp, hop, hl, hc, hrun, Result.andThen]
  exact hK' _ _ hK
theorem wpList_make_bytes (w : World) {ops : Array Oper} {rest : List Oper} {o : Oper} {a : Act} {Q : Exit → Act → World → Prop} (hg : o.guard = none) (l c : Operand) (hop : o.op = Op.makeSlice 32 l c)
    (L m : Nat) (hl : a.eval l = .int .i64 (L : Int)) (hc : a.eval c = .int .i64 ((L : Int) + (m : Int))) (h : L + m ≤ 200000)
    (hK : ∀ w', Hid (w'.heap[w.heap.size]? = some (.cells (cb (zb (L + m))).toArray 5 (0, 0))) → Below w.heap.size w w' → w.heap.size < w'.heap.size → wpList Try.prog ops Q rest (a.put o.dst (.slice (some ⟨w.heap.size, 0, none⟩) L (L + m))) w') :
    wpList Try.prog ops Q (o :: rest) a w :=
  wpList_make_run w _ hg l c _ hop _ _ _ hl hc (make_bytes w L m h) (hK _ (heap_alloc_new w _) ((Below.refl _ _).alloc (Nat.le_refl _) _) (by simp))
theorem own_spliced {w : World} {g m : Nat} {xs : List UInt8} (base : Nat) (hg : w.heap[g]? = some (.cells (splice (cb (zb (xs.length + m))) 0 (cb xs)).toArray 5 (0, 0))) (hb : base ≤ g) (hm : xs.length + m ≤ maxLen) : Own w base (.slice (some ⟨g, 0, none⟩) xs.length (xs.length + m)) xs := by
  refine ⟨by simp [cb], .inr ⟨g, _, _, rfl, hb, hg, by omega, hm, ?_, ?_⟩⟩
  · rw [List.size_toArray, length_splice _ _ _ (by simp [cb, zb])]; simp [cb, zb]
  · simp [splice, cb]
theorem rd_pos {w : World} {B : Nat} {A : Option Addr} {vs : List Value} (hr : Rd w B A vs) (h0 : 0 < vs.length) : ∃ ad, A = some ad ∧ ∀ j v, vs[j]? = some v → w.cell? (ad.add j) = some v := by
  rcases hr with h | ⟨b, off, rfl, hb, hc⟩
  · rw [h] at h0; simp at h0
  · exact ⟨_, rfl, fun j v hj => by rw [show (⟨b, off, none⟩ : Addr).add j = ⟨b, off + j, none⟩ from by simp [Addr.add]]; exact hc j v hj⟩
/-- the document's Copy -/
def CopyPost (xs : List UInt8) (w : World) (e : Ending) (w' : World) : Prop := ∃ v', e = .returned v' ∧ Own w' w.heap.size v' xs ∧ Below w.heap.size w w'
theorem own_empty (w : World) : Own (w.alloc (.cells #[] 5)) w.heap.size (.slice (some ⟨w.heap.size, 0, none⟩) 0 0) [] :=
  ⟨rfl, .inr ⟨w.heap.size, 0, #[], rfl, Nat.le_refl _, heap_alloc_new w _, Nat.le_refl _, by unfold maxLen; omega, rfl, rfl⟩⟩
theorem rd_ad {w : World} {B : Nat} {ad : Addr} {vs : List Value} (hr : Rd w B (some ad) vs) : ∀ j v, vs[j]? = some v → w.cell? (ad.add j) = some v := by
  intro j v hj
  obtain ⟨ad', h1, h2⟩ := rd_pos hr (by rcases Nat.eq_zero_or_pos vs.length with h | h
                                        · rw [List.eq_nil_of_length_eq_zero h] at hj; simp at hj
                                        · exact h)
  obtain rfl : ad = ad' := by simpa using h1
  exact h2 j v hj
set_option maxHeartbeats 1000000 in
theorem copy_any (xs : List UInt8) (c B : Nat) (A : Option Addr) (w : World) (hr : Rd w B A (cb xs)) (hB : B ≤ w.heap.size) (hl : xs.length ≤ 99000) (hn : A = none → xs = [] ∧ c = 0) :
    Calls Try.prog 19 #[.slice A xs.length c] w (CopyPost xs w) := by
  obtain ⟨i0, hi, hz0, hz1, hz2⟩ := info_parts u8info
  have HE := Lib.hid (own_empty w)
  cases A with
  | none =>
    obtain ⟨rfl, rfl⟩ := hn rfl
    clear hr
    go_enter Try.func19, Try.ntmps19
    go_wp2_with (at_builtin; refine wpList_append_own_none rfl (.tmp 3) (.tmp 4) 32 rfl w.heap.size 5 i0 1 Try.underlying32 hi _ 0 [] rfl HE.out rfl ?_)
    go_ret
    exact ⟨_, rfl, HE.out, (Below.refl _ _).alloc (Nat.le_refl _) _⟩
  | some ad =>
    have HS := Lib.hid (rd_ad (hr.below ((Below.refl w.heap.size w).alloc (Nat.le_refl _) (.cells #[] 5)) hB))
    clear hr
    go_enter Try.func19, Try.ntmps19
    go_wp2_with (at_builtin; refine wpList_append_own _ rfl (.tmp 3) (.tmp 4) 32 rfl w.heap.size 5 i0 (.int .u8 0) 1 1 Try.underlying32 hi hz0 hz1 hz2 rfl (by decide) _ 0 [] rfl HE.out ad xs.length c (cb xs) rfl ?c0 HS.out (cb_oneCell xs) ?c1 ?c2 ?c3 ?_)
    case c0 => rw [cb_len, Nat.mul_one]
    case c1 => unfold maxLen; omega
    case c2 => omega
    case c3 => simp
    · intro v' w1 hown' hgrow _
      have R1 := Lib.hid (show Own w1 w.heap.size v' xs from hown')
      have R2 := Lib.hid (((Below.refl w.heap.size w).alloc (Nat.le_refl _) (.cells #[] 5)).grown hgrow (by simp) (fun j hj => HE.out.lt j hj))
      clear hown' hgrow
      go_wp2_with fail
      go_ret
      exact ⟨_, rfl, R1.out, R2.out⟩
theorem own_rd {w : World} {base : Nat} {v : Value} {xs : List UInt8} (h : Own w base v xs) :
    ∃ A c, v = .slice A xs.length c ∧ Rd w w.heap.size A (cb xs) ∧ (A = none → xs = [] ∧ c = 0) := by
  rcases h.2 with ⟨rfl, h0⟩ | ⟨g, cap, cur, rfl, hb, hg, hnc, hcm, hcs, htake⟩
  · have : xs = [] := List.eq_nil_of_length_eq_zero h0
    subst this
    exact ⟨none, 0, rfl, Rd.nil _ _ _, fun _ => ⟨rfl, rfl⟩⟩
  · refine ⟨_, _, rfl, .inr ⟨g, 0, rfl, ?_, fun j v hj => ?_⟩, fun h => by cases h⟩
    · rcases Nat.lt_or_ge g w.heap.size with h1 | h1
      · exact h1
      · rw [Array.getElem?_eq_none h1] at hg; cases hg
    · rw [Nat.zero_add, cell_of_row w g j cur _ _ hg, ← hj, ← htake]
      have : j < (cb xs).length := by
        rcases Nat.lt_or_ge j (cb xs).length with h1 | h1
        · exact h1
        · rw [List.getElem?_eq_none h1] at hj; cases hj
      rw [List.getElem?_take, if_pos (by rw [cb_len] at this; omega)]; simp
theorem own_ley {w' : World} {base : Nat} {v : Value} {xs : List UInt8} {x k y : Nat} (hy : y = x / 256 ^ k) (h : w'.ownsRow base 5 1 v (xs.length + (le x k).length + 1) (cb (xs ++ le x k) ++ [.int .u8 ((y : Int) % 256)])) : Own w' base v (xs ++ le x (k + 1)) := by
  rw [le_snoc, ← List.append_assoc]
  refine own_push ?_
  rw [byte_of, ← hy, List.length_append]
  exact h
theorem div_w {x k y : Nat} (hx : x < 18446744073709551616) (hy : y = x / 256 ^ k) : IntKind.u64.wrap ((y : Int) / 256) = (y : Int) / 256 := by
  have h1 : y ≤ x := by rw [hy]; exact Nat.div_le_self _ _
  simp only [IntKind.wrap_u64]
  omega
end Go.Proofs.Ytlmelfakmllinaa.Fl

/-
  The fixed fact of the second layer's laws.
-/
namespace Go.Proofs.Ytlmelfakmllinaa.Fl
open Go.RowKit

def digits9 : List UInt8 := [49, 50, 51, 52, 53, 54, 55, 56, 57]
theorem crc_digits : (upd 0 digits9 : Nat) = 3421780262 := by decide +kernel
theorem cb_digits : cb digits9 = [.int .u8 49, .int .u8 50, .int .u8 51, .int .u8 52, .int .u8 53, .int .u8 54, .int .u8 55, .int .u8 56, .int .u8 57] := rfl
def zeros100 : List Nat := List.replicate ((100 + 63) / 64) 0
theorem zeros_bit (k : Nat) : bitAt zeros100 k = false := bitAt_zero _ k
theorem zeros_70 : bitAt zeros100 70 = !true := zeros_bit _
theorem next_70 {r : Int} (h : IsNext (flip zeros100 70) 100 4 r) : r = 70 := by
  have hb : ∀ k, bitAt (flip zeros100 70) k = if k = 70 then true else false := by
    intro k
    rw [bitAt_flip (by decide), zeros_bit, zeros_bit]; rfl
  rcases h with ⟨_, h⟩ | ⟨k, rfl, _, _, h, _⟩
  · have := h 70 (by omega)
    rw [hb] at this; simp at this
  · rw [hb] at h
    by_cases hk : k = 70
    · rw [hk]; rfl
    · rw [if_neg hk] at h; cases h
theorem le_2 : le 258 (min (2 : Int).toNat 8) = [2, 1] := by decide
theorem rd_digits (w : World) : Rd (w.alloc (.cells #[.int .u8 49, .int .u8 50, .int .u8 51, .int .u8 52, .int .u8 53, .int .u8 54, .int .u8 55, .int .u8 56, .int .u8 57] 5 (9, 10))) (w.heap.size + 1) (some ⟨w.heap.size, 0, none⟩) (cb digits9) := by
  refine .inr ⟨_, 0, rfl, by omega, fun j v hj => ?_⟩
  rw [Nat.zero_add, cell_of_row _ _ _ _ _ _ (heap_alloc_new w _), ← hj, cb_digits]; simp
end Go.Proofs.Ytlmelfakmllinaa.Fl

/-
  Contracts of package pack's numbers: number, Get; the document's Get.
-/
namespace Go.Proofs.Ytlmelfakmllinaa.Fl
open Go.RowKit

/-- the number of bytes, the lowest first -/
def leNat : List UInt8 → Nat
  | [] => 0
  | c :: cs => c.toNat + 256 * leNat cs
theorem leNat_lt (xs : List UInt8) : leNat xs < 256 ^ xs.length := by
  induction xs with
  | nil => simp [leNat]
  | cons c cs ih =>
    have hc := UInt8.toNat_lt c
    simp only [leNat, List.length_cons, Nat.pow_succ]
    omega
theorem leNat_snoc (xs : List UInt8) (c : UInt8) : leNat (xs ++ [c]) = leNat xs + c.toNat * 256 ^ xs.length := by
  induction xs with
  | nil => simp [leNat]
  | cons a ts ih =>
    simp only [List.cons_append, leNat, ih, List.length_cons, Nat.pow_succ, Nat.mul_add]
    rw [← Nat.add_assoc, Nat.mul_left_comm, Nat.mul_comm 256 (256 ^ ts.length)]
theorem pow256 {k : Nat} (h : k ≤ 8) : 256 ^ k ≤ 18446744073709551616 := by
  have : 256 ^ k ≤ 256 ^ 8 := Nat.pow_le_pow_right (by decide) h
  omega
theorem byte_mul_lt {k c : Nat} (h : k < 8) (hc : c < 256) : c * 256 ^ k < 18446744073709551616 := by
  have h1 := pow256 (k := k + 1) (by omega)
  rw [Nat.pow_succ] at h1
  have hp : 0 < 256 ^ k := Nat.pow_pos (by decide)
  have : c * 256 ^ k < 256 * 256 ^ k := Nat.mul_lt_mul_of_pos_right hc hp
  omega
theorem or_byte {s k : Nat} {c : UInt8} (h : k < 8) (hs : s < 256 ^ k) : bits .or .u64 (s : Int) (IntKind.u64.wrap ((c.toNat : Int) * 2 ^ (8 * k))) = ((s + c.toNat * 256 ^ k : Nat) : Int) := by
  have hc := UInt8.toNat_lt c
  have hm := byte_mul_lt h (by omega : c.toNat < 256)
  have hp := pow256 (k := k) (by omega)
  have e : IntKind.u64.wrap ((c.toNat : Int) * 2 ^ (8 * k)) = ((c.toNat * 256 ^ k : Nat) : Int) := by
    rw [pow_mul_cast, ← Int.natCast_mul, IntKind.wrap_u64]
    generalize c.toNat * 256 ^ k = z at hm
    omega
  rw [e, u64_or_nat _ _ (by omega) hm]
  congr 1
  rw [← pow8] at hs ⊢
  rw [Nat.or_comm, Nat.mul_comm, ← Nat.two_pow_add_eq_or_of_lt hs]
  omega
theorem num_step {xs : List UInt8} {k : Nat} (hk : k < xs.length) : leNat (xs.take (k + 1)) = leNat (xs.take k) + xs[k].toNat * 256 ^ k := by
  rw [List.take_succ_eq_append_getElem hk, leNat_snoc, List.length_take, Nat.min_eq_left (Nat.le_of_lt hk)]
theorem take_lt (xs : List UInt8) {k : Nat} (h : k ≤ xs.length) : leNat (xs.take k) < 256 ^ k := by
  have := leNat_lt (xs.take k)
  rwa [List.length_take, Nat.min_eq_left h] at this
def resNum (xs : List UInt8) (m : Nat) : Nat := if xs.length < m then 0 else leNat (xs.take m)
def errNum (xs : List UInt8) (m : Nat) : Nat := if xs.length < m then 4 else 0
theorem leNat_drop {xs : List UInt8} {m j : Nat} (h : j < m) (hm : m ≤ xs.length) : leNat ((xs.take m).drop j) = (xs[j]'(by omega)).toNat + 256 * leNat ((xs.take m).drop (j + 1)) := by
  rw [List.drop_eq_getElem_cons (by rw [List.length_take]; omega)]
  simp [leNat]
theorem leNat_drop_lt (xs : List UInt8) (m j : Nat) (hm : m ≤ 8) : leNat ((xs.take m).drop (j + 1)) < 256 ^ 7 ∨ m ≤ j := by
  rcases Nat.lt_or_ge j m with h | h
  · have h1 := leNat_lt ((xs.take m).drop (j + 1))
    have h2 : 256 ^ ((xs.take m).drop (j + 1)).length ≤ 256 ^ 7 := Nat.pow_le_pow_right (by decide) (by simp; omega)
    exact .inl (Nat.lt_of_lt_of_le h1 h2)
  · exact .inr h
end Go.Proofs.Ytlmelfakmllinaa.Fl

/-
  Contracts of the document's Spare, Kept, Equal.
-/
namespace Go.Proofs.Ytlmelfakmllinaa.Fl
open Go.RowKit

/-- what Spare lays at place i -/
def sp (xs : List UInt8) (i : Nat) : UInt8 := if h : i < xs.length then xs[i] else UInt8.ofNat ((190 + i) % 256)
theorem sp_in {xs : List UInt8} {i : Nat} (h : i < xs.length) : sp xs i = xs[i] := dif_pos h
theorem sp_out {xs : List UInt8} {i : Nat} (h : ¬ i < xs.length) : ((sp xs i).toNat : Int) = (190 + (i : Int)) % 256 := by
  unfold sp; rw [dif_neg h, byte_of]; omega
theorem make_whole (w : World) (l : Nat) (h : l + 7 ≤ 200000) :
    (Instr.makeSlice 32 (.int .i64 ((l : Int) + 7)) (.int .i64 ((l : Int) + 7))).run Try.prog w = .ok (.slice (some ⟨w.heap.size, 0, none⟩) (l + 7) (l + 7)) (w.alloc (.cells (cb (zb (l + 7))).toArray 5)) := by
  obtain ⟨i0, hi, hz0, hz1, hz2⟩ := info_parts u8info
  have hmk := run_make (P := Try.prog) w 32 5 i0 (.int .u8 0) Try.underlying32 hi hz0 .i64 .i64 ((l : Int) + 7) ((l : Int) + 7) (by omega) (by omega) (by rw [hz2]; omega) (by omega)
  rw [hmk, hz1, show ((l : Int) + 7).toNat = l + 7 by omega, show (Value.int .u8 0).cells = #[Value.int .u8 0] from rfl, zb_made]
theorem own_zero (w : World) (n : Nat) (h : n ≤ maxLen) : Own (w.alloc (.cells (cb (zb n)).toArray 5)) w.heap.size (.slice (some ⟨w.heap.size, 0, none⟩) n n) (zb n) := by
  have e : (zb n).length = n := by simp [zb]
  unfold Own
  rw [e]
  exact ⟨by simp [cb, zb], .inr ⟨_, _, _, rfl, Nat.le_refl _, heap_alloc_new w _, Nat.le_refl _, h, by simp [cb, zb], by rw [List.take_of_length_le (by simp [cb, zb])]⟩⟩
theorem wpList_make_whole (w : World) {ops : Array Oper} {rest : List Oper} {o : Oper} {a : Act} {Q : Exit → Act → World → Prop} (hg : o.guard = none) (l c : Operand) (hop : o.op = Op.makeSlice 32 l c)
    (L : Nat) (hl : a.eval l = .int .i64 ((L : Int) + 7)) (hc : a.eval c = .int .i64 ((L : Int) + 7)) (h : L + 7 ≤ 200000)
    (hK : ∀ w', Hid (Own w' w.heap.size (.slice (some ⟨w.heap.size, 0, none⟩) (L + 7) (L + 7)) (zb (L + 7))) → Below w.heap.size w w' → w.heap.size < w'.heap.size → wpList Try.prog ops Q rest (a.put o.dst (.slice (some ⟨w.heap.size, 0, none⟩) (L + 7) (L + 7))) w') :
    wpList Try.prog ops Q (o :: rest) a w :=
  wpList_make_run w _ hg l c _ hop _ _ _ hl hc (make_whole w L h) (hK _ (own_zero w _ (by unfold maxLen; omega)) ((Below.refl _ _).alloc (Nat.le_refl _) _) (by simp))
theorem own_set {w : World} {base g n cap : Nat} {L : List UInt8} (h : Own w base (.slice (some ⟨g, 0, none⟩) n cap) L) (hn : L.length = n) (j : Nat) (c : UInt8) {z : Int} (hz : z = (c.toNat : Int)) : Own (w.setCell ⟨g, j, none⟩ (.int .u8 z)) base (.slice (some ⟨g, 0, none⟩) n cap) (L.set j c) := by
  subst hn
  have := (World.ownsRow.stored h j (.int .u8 z)).1
  unfold Own
  rw [List.length_set]
  have e : cb (L.set j c) = (cb L).set j (.int .u8 z) := by unfold cb; rw [List.map_set, hz]
  rw [e]; exact this
theorem own_cell {w : World} {base g n cap : Nat} {L : List UInt8} (h : Own w base (.slice (some ⟨g, 0, none⟩) n cap) L) (hn : L.length = n) {j : Nat} (hj : j < L.length) : w.cell? ⟨g, j, none⟩ = some (.int .u8 (L[j].toNat : Int)) := by
  subst hn
  rw [World.ownsRow.cellAt h j (by omega), cb_at _ _ hj]
theorem own_free {w : World} {base g n cap : Nat} {L : List UInt8} (h : Own w base (.slice (some ⟨g, 0, none⟩) n cap) L) (hn : L.length = n) (j : Nat) : w.frozen? ⟨g, j, none⟩ = false := by
  subst hn; exact World.ownsRow.frozenAt h j
theorem fill_step {xs L : List UInt8} {k : Nat} (h : ∀ i, i < k → L[i]? = some (sp xs i)) (hk : k < L.length) : ∀ i, i < k + 1 → (L.set k (sp xs k))[i]? = some (sp xs i) := by
  intro i hi
  rw [List.getElem?_set]
  by_cases e : k = i
  · subst e; rw [if_pos rfl, if_pos hk]
  · rw [if_neg e]; exact h i (by omega)
theorem tint_w (k : Nat) : (190 + (k : Int)) % 256 = ((UInt8.ofNat ((190 + k) % 256)).toNat : Int) := by rw [byte_of]; omega
def SparePost (xs : List UInt8) (w : World) (e : Ending) (w' : World) : Prop := ∃ g L, e = .returned (.tuple #[.slice (some ⟨g, 0, none⟩) xs.length (xs.length + 7), .slice (some ⟨g, 0, none⟩) (xs.length + 7) (xs.length + 7)]) ∧ w.heap.size ≤ g ∧ L.length = xs.length + 7 ∧ Own w' w.heap.size (.slice (some ⟨g, 0, none⟩) (xs.length + 7) (xs.length + 7)) L ∧ (∀ i, i < xs.length + 7 → L[i]? = some (sp xs i)) ∧ Below w.heap.size w w'
theorem nums_getD (xs : List UInt8) (i : Nat) (h : i < xs.length) : (xs.map fun c => (c.toNat : Int)).getD i 0 = (xs[i].toNat : Int) := by
  rw [List.getD_eq_getElem?_getD, List.getElem?_map, List.getElem?_eq_getElem h]; rfl
theorem conv_str {w : World} {B : Nat} {A : Option Addr} {xs : List UInt8} (c : Nat) (hr : Rd w B A (cb xs)) : (convert 32 9 (.slice A xs.length c)).run Try.prog w = .ok (.string (strOfNums (xs.map fun c => (c.toNat : Int)))) w := by
  rcases Nat.eq_zero_or_pos xs.length with h | h
  · obtain rfl := List.eq_nil_of_length_eq_zero h
    have h0 := run_convert_bytes_string (P := Try.prog) w 32 9 5 A 0 c Try.underlying32 Try.underlying5 Try.underlying9
    rw [show ([] : List UInt8).length = 0 from rfl, h0]
    cases A <;> simp [Conv.bytesToString, loadCells] <;> rfl
  · obtain ⟨b, off, rfl, _, _⟩ := rdb_at hr h
    refine run_convert_bytes_arg w 32 5 Try.underlying32 Try.underlying5 b off xs.length c _ (by simp) (fun i hi => ?_) 9 Try.underlying9
    obtain ⟨b', off', e, _, hc⟩ := rdb_at hr hi
    obtain ⟨rfl, rfl⟩ : b = b' ∧ off = off' := by injection e with e; injection e with h1 h2 _; exact ⟨h1, h2⟩
    rw [nums_getD _ _ hi]; exact hc
theorem equal_same (xs : List UInt8) (c c2 B B2 : Nat) (A A2 : Option Addr) (w : World) (hr : Rd w B A (cb xs)) (hr2 : Rd w B2 A2 (cb xs)) :
    Calls Try.prog 13 #[.slice A xs.length c, .slice A2 xs.length c2] w fun e w' => e = .returned (.bool true) ∧ w = w' := by
  have h1 := conv_str c hr
  have h2 := conv_str c2 hr2
  generalize strOfNums (xs.map fun c => (c.toNat : Int)) = s at h1 h2
  go_enter Try.func13, Try.ntmps13
  go_wp2_with fail
  all_goals trace_state
  go_ret
  exact ⟨rfl, rfl⟩
end Go.Proofs.Ytlmelfakmllinaa.Fl

/-
  The walk of PackNumbers.
-/
namespace Go.Proofs.Ytlmelfakmllinaa.Fl
open Go.RowKit

theorem xor_byte (c : UInt8) : ∃ d : UInt8, bits .xor .u8 (c.toNat : Int) 255 = (d.toNat : Int) := by
  have hc := UInt8.toNat_lt c
  have h1 : c.toNat ^^^ 255 < 2 ^ 8 := Nat.xor_lt_two_pow (by omega) (by omega)
  refine ⟨UInt8.ofNat (c.toNat ^^^ 255), ?_⟩
  rw [show (255 : Int) = ((255 : Nat) : Int) from rfl, u8_xor_nat _ _ (by omega) (by omega), UInt8.toNat_ofNat', Nat.mod_eq_of_lt h1]
theorem fit_take {xs L : List UInt8} (h : ∀ i, i < xs.length + 7 → L[i]? = some (sp xs i)) : L.take xs.length = xs := by
  apply List.ext_getElem?
  intro i
  rw [List.getElem?_take]
  by_cases hi : i < xs.length
  · rw [if_pos hi, h i (by omega), sp_in hi, List.getElem?_eq_getElem hi]
  · rw [if_neg hi, List.getElem?_eq_none (by omega)]
theorem res_cases (ys : List UInt8) (m : Nat) : (errNum ys m = 0 ∧ decide (errNum ys m = 0) = true) ∨ (errNum ys m = 4 ∧ decide (errNum ys m = 0) = false) := by
  unfold errNum; split <;> simp
theorem Own.below {w w' : World} {base : Nat} {v : Value} {xs : List UInt8} (h : Own w base v xs) (hb : Below w.heap.size w w') : Own w' base v xs := by
  refine ⟨h.1, h.2.elim .inl fun ⟨g, cap, cur, hv, hbg, hg, r⟩ => .inr ⟨g, cap, cur, hv, hbg, ?_, r⟩⟩
  have hlt : g < w.heap.size := by
    rcases Nat.lt_or_ge g w.heap.size with h1 | h1
    · exact h1
    · rw [Array.getElem?_eq_none h1] at hg; cases hg
  rw [hb.block g hlt]; exact hg
theorem own_ad {w : World} {base n c : Nat} {A : Option Addr} {xs : List UInt8} (h : Own w base (.slice A n c) xs) (hn : 0 < n) : ∃ g, A = some ⟨g, 0, none⟩ ∧ base ≤ g := by
  rcases h.2 with ⟨e, _⟩ | ⟨g, cap, cur, e, hb, _⟩
  · injection e with _ e _; omega
  · injection e with e _ _; exact ⟨g, e, hb⟩
/-- a slice of bytes that came in, cut to at most m bytes -/
theorem bytes_cut {w : World} {A : Option Addr} {len cap : Nat} {zs : List Int} (m : Nat) (h : IsRow .u8 w A len cap zs) :
    ∃ ys : List UInt8, min len m = ys.length ∧ len ≤ cap ∧ Rd w w.heap.size A (cb ys) ∧ (A = none → ys = [] ∧ cap = 0) := by
  obtain ⟨xs, hx, hc, _, hr, hn, _⟩ := bytes_of_row h
  refine ⟨xs.take m, by rw [List.length_take, hx, Nat.min_comm], hc, by rw [← cb_take]; exact hr.take_ m, fun h0 => ?_⟩
  obtain ⟨h1, h2⟩ := hn h0
  exact ⟨by rw [List.eq_nil_of_length_eq_zero (hx.trans h1)]; simp, h2⟩
end Go.Proofs.Ytlmelfakmllinaa.Fl

/-
  Contracts of package pack's words: Words, Unwords; the document's Words, Unwords, Same.
-/
namespace Go.Proofs.Ytlmelfakmllinaa.Fl
open Go.RowKit

/-- words as bytes -/
def wb : List Nat → List UInt8
  | [] => []
  | x :: xs => le x 8 ++ wb xs
theorem wb_snoc (l : List Nat) (x : Nat) : wb (l ++ [x]) = wb l ++ le x 8 := by
  induction l with
  | nil => simp [wb]
  | cons a t ih => rw [List.cons_append, wb, ih, wb, List.append_assoc]
theorem wb_len (l : List Nat) : (wb l).length = 8 * l.length := by
  induction l with
  | nil => rfl
  | cons a t ih => rw [wb, List.length_append, le_len, ih, List.length_cons]; omega
theorem wb_take {l : List Nat} {k : Nat} (h : k < l.length) : wb (l.take (k + 1)) = wb (l.take k) ++ le l[k] 8 := by
  rw [List.take_succ_eq_append_getElem h, wb_snoc]
theorem leNat_le (x n : Nat) : leNat (le x n) = x % 256 ^ n := by
  induction n generalizing x with
  | zero => simp [leNat, le, Nat.mod_one]
  | succ n ih =>
    rw [le, leNat, ih, UInt8.toNat_ofNat', show x % 256 % 2 ^ 8 = x % 256 by omega, Nat.pow_succ, Nat.mul_comm (256 ^ n) 256, Nat.mod_mul]
/-- bytes as words -/
def uw (xs : List UInt8) (k : Nat) : List Nat := (List.range k).map fun i => leNat ((xs.drop (8 * i)).take 8)
theorem uw_len (xs : List UInt8) (k : Nat) : (uw xs k).length = k := by simp [uw]
theorem uw_succ (xs : List UInt8) (k : Nat) : uw xs (k + 1) = uw xs k ++ [leNat ((xs.drop (8 * k)).take 8)] := by simp [uw, List.range_succ]
theorem wb_drop (l : List Nat) (k : Nat) (h : k < l.length) : ((wb l).drop (8 * k)).take 8 = le l[k] 8 := by
  induction l generalizing k with
  | nil => simp at h
  | cons a t ih =>
    cases k with
    | zero => rw [wb, Nat.mul_zero, List.drop_zero, List.take_append_of_le_length (by rw [le_len]; omega), List.take_of_length_le (by rw [le_len]; omega)]; rfl
    | succ k =>
      rw [wb, show 8 * (k + 1) = 8 + 8 * k by omega, ← List.drop_drop, List.drop_append_of_le_length (by rw [le_len]; omega), show List.drop 8 (le a 8) = [] from List.drop_of_length_le (by rw [le_len]; omega), List.nil_append, ih k (by simpa using h)]
      rfl
theorem uw_wb (l : List Nat) (hl : ∀ x ∈ l, x < 18446744073709551616) : uw (wb l) l.length = l := by
  apply List.ext_getElem (by rw [uw_len])
  intro i h1 h2
  simp only [uw, List.getElem_map, List.getElem_range]
  rw [wb_drop l i h2, leNat_le, Nat.mod_eq_of_lt (Nat.lt_of_lt_of_le (hl _ (List.getElem_mem h2)) (by decide))]
theorem uw_lt (xs : List UInt8) (k : Nat) : ∀ x ∈ uw xs k, x < 18446744073709551616 := by
  intro x hx
  simp only [uw, List.mem_map] at hx
  obtain ⟨i, _, rfl⟩ := hx
  have h := leNat_lt ((xs.drop (8 * i)).take 8)
  have h2 : 256 ^ ((xs.drop (8 * i)).take 8).length ≤ 256 ^ 8 := Nat.pow_le_pow_right (by decide) (by simp; omega)
  have h3 : (256 : Nat) ^ 8 = 18446744073709551616 := by decide
  omega
theorem Own.le {w : World} {base base' : Nat} {v : Value} {xs : List UInt8} (h : Own w base v xs) (hb : base' ≤ base) : Own w base' v xs :=
  ⟨h.1, h.2.elim .inl fun ⟨g, cap, cur, hv, hbg, r⟩ => .inr ⟨g, cap, cur, hv, Nat.le_trans hb hbg, r⟩⟩
theorem rdw_at {w : World} {B : Nat} {A : Option Addr} {ws : List Nat} (h : Rd w B A (cw ws)) {k : Nat} (hk : k < ws.length) :
    ∃ b off, A = some ⟨b, off, none⟩ ∧ b < B ∧ w.cell? ⟨b, off + k, none⟩ = some (.int .u64 (ws[k] : Int)) := by
  obtain ⟨b, off, hA, hb, hc⟩ := h.at_ (k := k) (by rw [cw_len]; exact hk)
  refine ⟨b, off, hA, hb, ?_⟩
  rw [hc]; simp [cw]
theorem own_nilb (w : World) (base : Nat) : Own w base (.slice none 0 0) [] := ⟨rfl, .inl ⟨rfl, rfl⟩⟩
def WordsPost (ws : List Nat) (w : World) (e : Ending) (w' : World) : Prop := ∃ v', e = .returned v' ∧ Own w' w.heap.size v' (wb ws) ∧ Below w.heap.size w w'
theorem cw_one (ws : List Nat) : ∀ u ∈ cw ws, u.oneCell' = true := by
  intro u hu; simp [cw] at hu; obtain ⟨x, _, rfl⟩ := hu; rfl
theorem uw_set {xs : List UInt8} {k n : Nat} (h : k < n) : (uw xs k ++ List.replicate (n - k) 0).set k (leNat ((xs.drop (8 * k)).take 8)) = uw xs (k + 1) ++ List.replicate (n - (k + 1)) 0 := by
  rw [List.set_append_right _ _ (by rw [uw_len]; omega), uw_len, Nat.sub_self, show n - k = (n - (k + 1)) + 1 by omega, List.replicate_succ, List.set_cons_zero, uw_succ, List.append_assoc]; rfl
theorem lone_onew (z : Int) : ∀ u ∈ [Value.int .u64 z], u.oneCell' = true := by
  intro u hu; simp at hu; subst hu; rfl
theorem res_eight {xs : List UInt8} {k : Nat} (h : 8 * k + 8 ≤ xs.length) : resNum (xs.drop (8 * k)) 8 = leNat ((xs.drop (8 * k)).take 8) := by
  unfold resNum; rw [if_neg (by simp; omega)]
end Go.Proofs.Ytlmelfakmllinaa.Fl

/-
  Contracts of slices.Clone and slices.Equal at words, and of package pack's Bits.Clone and Bits.Same.
-/
namespace Go.Proofs.Ytlmelfakmllinaa.Fl
open Go.RowKit

/-! ### Equal, Same -/
theorem take_eq_succ {ws us : List Nat} {k : Nat} (h1 : k < ws.length) (h2 : k < us.length) (h : ws.take k = us.take k) (e : ws[k] = us[k]) : ws.take (k + 1) = us.take (k + 1) := by
  rw [List.take_succ_eq_append_getElem h1, List.take_succ_eq_append_getElem h2, h, e]
def EqPost (b : Bool) (w : World) (e : Ending) (w' : World) : Prop := ∃ q : Nat, e = .returned (.bool b) ∧ w.drewN q = w'
theorem words_ext {ws us : List Nat} (hl : ws.length = us.length) (h1 : ∀ x ∈ ws, x < 18446744073709551616) (h2 : ∀ x ∈ us, x < 18446744073709551616) (h : ∀ k, k < 64 * ws.length → bitAt ws k = bitAt us k) : ws = us := by
  apply List.ext_getElem hl
  intro a ha ha'
  apply Nat.eq_of_testBit_eq
  intro j
  by_cases hj : j < 64
  · rw [← bitAt_word ha hj, ← bitAt_word ha' hj]
    exact h _ (by omega)
  · have e64 : (2 : Nat) ^ 64 = 18446744073709551616 := by decide +kernel
    have hp : (2 : Nat) ^ 64 ≤ 2 ^ j := Nat.pow_le_pow_right (by decide) (by omega)
    rw [Nat.testBit_lt_two_pow (Nat.lt_of_lt_of_le (by rw [e64]; exact h1 _ (List.getElem_mem ha)) hp), Nat.testBit_lt_two_pow (Nat.lt_of_lt_of_le (by rw [e64]; exact h2 _ (List.getElem_mem ha')) hp)]
end Go.Proofs.Ytlmelfakmllinaa.Fl
