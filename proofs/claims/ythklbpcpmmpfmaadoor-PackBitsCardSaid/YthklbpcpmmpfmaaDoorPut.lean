/-
  Contracts of package pack's numbers: appendBytes, byteCount, Put; the document's Copy and Put.
-/
import Derived.Test.YthklbpcpmmpfmaaDoorBitsB
import Derived.Laws.CopyOwn
import Derived.Laws.AppendOwnNone
namespace Go.Proofs.YthklbpcpmmpfmaaDoor.Fl
open Go.RowKit

/-- a number's lowest n bytes, the lowest first -/
def le (x : Nat) : Nat → List UInt8
  | 0 => []
  | n + 1 => UInt8.ofNat (x % 256) :: le (x / 256) n
theorem le_len (x n : Nat) : (le x n).length = n := by
  induction n generalizing x with
  | zero => rfl
  | succ n ih => simp [le, ih]
theorem le_snoc (x n : Nat) : le x (n + 1) = le x n ++ [UInt8.ofNat (x / 256 ^ n % 256)] := by
  induction n generalizing x with
  | zero => simp [le]
  | succ n ih =>
    have h1 : le x (n + 1 + 1) = UInt8.ofNat (x % 256) :: le (x / 256) (n + 1) := rfl
    have h2 : le x (n + 1) = UInt8.ofNat (x % 256) :: le (x / 256) n := rfl
    rw [h1, h2, ih, List.cons_append, Nat.div_div_eq_div_mul, Nat.pow_succ, Nat.mul_comm 256]
theorem byte_of (x : Nat) : ((UInt8.ofNat (x % 256)).toNat : Int) = (x : Int) % 256 := by
  rw [UInt8.toNat_ofNat', show x % 256 % 2 ^ 8 = x % 256 by omega]; omega
theorem u8info : (Tryd.prog.info? 5).map (fun i => (i.zero, i.size, i.bytes)) = some (some (.int .u8 0), 1, 1) := by kernel_rfl
/-- bytes in memory of the call's own -/
def Own (w : World) (base : Nat) (v : Value) (xs : List UInt8) : Prop := w.ownsRow base 5 1 v xs.length (cb xs)
theorem pow8 (k : Nat) : 2 ^ (8 * k) = 256 ^ k := by rw [Nat.pow_mul]
theorem pow_mul_cast (k : Nat) : (2 : Int) ^ (8 * k) = ((256 ^ k : Nat) : Int) := by rw [← pow8]; simp
theorem Own.alloc {w : World} {base : Nat} {v : Value} {xs : List UInt8} (h : Own w base v xs) (o : Obj) : Own (w.alloc o) base v xs := World.ownsRow.alloc h o
theorem cb_oneCell (xs : List UInt8) : ∀ u ∈ cb xs, u.oneCell' = true := by
  intro u hu; simp [cb] at hu; obtain ⟨c, _, rfl⟩ := hu; rfl
theorem own_push {w' : World} {base : Nat} {v : Value} {xs : List UInt8} {c : UInt8} (h : w'.ownsRow base 5 1 v (xs.length + 1) (cb xs ++ [.int .u8 (c.toNat : Int)])) : Own w' base v (xs ++ [c]) := by
  unfold Own; rw [cb_append]; simpa [cb] using h
theorem own_le {w' : World} {base : Nat} {v : Value} {xs : List UInt8} {x k : Nat} (h : w'.ownsRow base 5 1 v (xs.length + (le x k).length + 1) (cb (xs ++ le x k) ++ [.int .u8 ((x : Int) / 2 ^ (8 * k) % 256)])) : Own w' base v (xs ++ le x (k + 1)) := by
  rw [le_snoc, ← List.append_assoc]
  refine own_push ?_
  rw [byte_of, Int.natCast_ediv, ← pow_mul_cast, List.length_append]
  exact h

theorem Own.lt {w : World} {base : Nat} {v : Value} {xs : List UInt8} (h : Own w base v xs) (k : Nat) (hk : v.ownBlock = some k) : base ≤ k := (World.ownsRow.lt h k hk).1
theorem lone_cell (wr : World) (u : Value) (t : TypeId) (j : Nat) (u' : Value) (hj : [u][j]? = some u') : (wr.alloc (.cells #[u] t)).cell? ((⟨wr.heap.size, 0, none⟩ : Addr).add j) = some u' := by
  match j, hj with
  | 0, hj => simp at hj; subst hj; simp [Addr.add]
theorem lone_one (z : Int) : ∀ u ∈ [Value.int .u8 z], u.oneCell' = true := by
  intro u hu; simp at hu; subst hu; rfl
def AppPost (base : Nat) (xs : List UInt8) (x n : Nat) (w : World) (e : Ending) (w' : World) : Prop := ∃ v', e = .returned v' ∧ Own w' base v' (xs ++ le x n) ∧ Below base w w'
set_option maxHeartbeats 1000000 in
theorem appendBytes_any (base : Nat) (v : Value) (xs : List UInt8) (x n : Nat) (w : World) (h : Own w base v xs) (hn : n ≤ 8) (hx : x < 18446744073709551616) (hl : xs.length ≤ 100000) (hb : base ≤ w.heap.size) :
    Calls Tryd.prog 87 #[v, .int .u64 (x : Int), .int .i64 (n : Int)] w (AppPost base xs x n w) := by
  obtain ⟨i0, hi, hz0, hz1, hz2⟩ := info_parts u8info
  have HX := Lib.hid hx
  clear hx
  go_enter Tryd.func87, Tryd.ntmps87
  go_wp2_with fail
  go_loopw [0, 9] (fun u i wr => ∃ k : Nat, k ≤ n ∧ i = .int .i64 k ∧ Own wr base u (xs ++ le x k) ∧ Below base w wr) (fun _ i _ => n - (intOf i).toNat)
  case atStart => exact ⟨0, Nat.zero_le _, rfl, by simpa [le] using h, Below.refl _ _⟩
  case round =>
    obtain ⟨k, hk, rfl, hown, hbl⟩ := hrel
    by_cases hk' : k < n
    · go_wp2_with (first
        | (at_builtin; refine wpList_append_own _ rfl _ _ 76 rfl base 5 i0 (.int .u8 0) 1 1 Tryd.underlying76 hi hz0 hz1 hz2 rfl (by decide) _ _ _ rfl (hown.alloc _) ⟨wr.heap.size, 0, none⟩ 1 1 [.int .u8 ((x : Int) / 2 ^ (8 * k) % 256)] rfl rfl ?c1 ?c2 ?c3 ?c4 ?c5 ?_)
        | fail)
      case c1 => exact lone_cell wr _ _
      case c2 => exact lone_one _
      case c3 => rw [List.length_append, le_len]; unfold maxLen; omega
      case c4 => rw [List.length_append, le_len]; omega
      case c5 => have := hbl.size; simp; omega
      · intro v' w1 hown' hgrow _
        have R1 := own_le hown'
        have R2 := (hbl.alloc (by have := hbl.size; omega) _).grown hgrow (by have := hbl.size; simp; omega) (fun j hj => hown.lt j hj)
        clear hown' hgrow hown hbl
        go_wp2_with fail
        go_roundw
        case rel => exact ⟨k + 1, by omega, by simp, R1, R2⟩
        case measure => simp [intOf]; omega
    · have e : k = n := by omega
      subst e
      go_wp2_with fail
      go_ret
      exact ⟨_, rfl, hown, hbl⟩

theorem retP_i64 {a b : Int} (h : a = b) : Ending.returned (.int .i64 a) = .returned (.int .i64 b) := by rw [h]
theorem byteCount_any (n : Int) (w : World) : Calls Tryd.prog 86 #[.int .i64 n] w fun e w' => e = .returned (.int .i64 (min n.toNat 8 : Nat)) ∧ w = w' := by
  go_enter Tryd.func86, Tryd.ntmps86
  go_wp2_with fail
  all_goals go_ret
  all_goals exact ⟨retP_i64 (by split at * <;> omega), rfl⟩

/-- zero bytes -/
def zb (k : Nat) : List UInt8 := List.replicate k 0
theorem zb_made (k : Nat) : madeCells #[Value.int .u8 0] (k * 1) = (cb (zb k)).toArray := by
  apply Array.toList_inj.1
  rw [toList_madeCells_one]; simp [cb, zb]
theorem u8size : (Tryd.prog.info? 5).map (·.size) = some 1 := by kernel_rfl
theorem make_bytes (w : World) (l m : Nat) (h : l + m ≤ 200000) :
    (Instr.makeSlice 76 (.int .i64 (l : Int)) (.int .i64 ((l : Int) + (m : Int)))).run Tryd.prog w = .ok (.slice (some ⟨w.heap.size, 0, none⟩) l (l + m)) (w.alloc (.cells (cb (zb (l + m))).toArray 5)) := by
  obtain ⟨i0, hi, hz0, hz1, hz2⟩ := info_parts u8info
  have hmk := run_make (P := Tryd.prog) w 76 5 i0 (.int .u8 0) Tryd.underlying76 hi hz0 .i64 .i64 (l : Int) ((l : Int) + (m : Int)) (by omega) (by omega) (by rw [hz2]; omega) (by omega)
  rw [hmk, hz1, show ((l : Int) + (m : Int)).toNat = l + m by omega, show (Value.int .u8 0).cells = #[Value.int .u8 0] from rfl, zb_made, Int.toNat_natCast]
theorem wpList_make_run {P : Program} (w w2 : World) {ops : Array Oper} {rest : List Oper} {o : Oper} {a : Act} {Q : Exit → Act → World → Prop} (hg : o.guard = none) (l c : Operand) (t : TypeId) (hop : o.op = Op.makeSlice t l c)
    (vl vc u : Value) (hl : a.eval l = vl) (hc : a.eval c = vc) (hrun : (Instr.makeSlice t vl vc).run P w = .ok u w2) (hK : wpList P ops Q rest (a.put o.dst u) w2) : wpList P ops Q (o :: rest) a w := by
  refine wpList_plain hg fun K hK' => ?_
  unfold Oper.wp
  simp [execOp, hop, hl, hc, hrun, Result.andThen]
  exact hK' _ _ hK
theorem wpList_make_bytes (w : World) {ops : Array Oper} {rest : List Oper} {o : Oper} {a : Act} {Q : Exit → Act → World → Prop} (hg : o.guard = none) (l c : Operand) (hop : o.op = Op.makeSlice 76 l c)
    (L m : Nat) (hl : a.eval l = .int .i64 (L : Int)) (hc : a.eval c = .int .i64 ((L : Int) + (m : Int))) (h : L + m ≤ 200000)
    (hK : ∀ w', Hid (w'.heap[w.heap.size]? = some (.cells (cb (zb (L + m))).toArray 5 (0, 0))) → Below w.heap.size w w' → w.heap.size < w'.heap.size → wpList Tryd.prog ops Q rest (a.put o.dst (.slice (some ⟨w.heap.size, 0, none⟩) L (L + m))) w') :
    wpList Tryd.prog ops Q (o :: rest) a w :=
  wpList_make_run w _ hg l c _ hop _ _ _ hl hc (make_bytes w L m h) (hK _ (heap_alloc_new w _) ((Below.refl _ _).alloc (Nat.le_refl _) _) (by simp))
theorem own_spliced {w : World} {g m : Nat} {xs : List UInt8} (base : Nat) (hg : w.heap[g]? = some (.cells (splice (cb (zb (xs.length + m))) 0 (cb xs)).toArray 5 (0, 0))) (hb : base ≤ g) (hm : xs.length + m ≤ maxLen) : Own w base (.slice (some ⟨g, 0, none⟩) xs.length (xs.length + m)) xs := by
  refine ⟨by simp [cb], .inr ⟨g, _, _, rfl, hb, hg, by omega, hm, ?_, ?_⟩⟩
  · rw [List.size_toArray, length_splice _ _ _ (by simp [cb, zb])]; simp [cb, zb]
  · simp [splice, cb]
theorem rd_pos {w : World} {B : Nat} {A : Option Addr} {vs : List Value} (hr : Rd w B A vs) (h0 : 0 < vs.length) : ∃ ad, A = some ad ∧ ∀ j v, vs[j]? = some v → w.cell? (ad.add j) = some v := by
  rcases hr with h | ⟨b, off, rfl, hb, hc⟩
  · rw [h] at h0; simp at h0
  · exact ⟨_, rfl, fun j v hj => by rw [show (⟨b, off, none⟩ : Addr).add j = ⟨b, off + j, none⟩ from by simp [Addr.add]]; exact hc j v hj⟩
set_option maxHeartbeats 1000000 in
theorem put_any (xs : List UInt8) (c B : Nat) (A : Option Addr) (x : Nat) (n : Int) (w : World) (hr : Rd w B A (cb xs)) (hB : B ≤ w.heap.size) (hx : x < 18446744073709551616) (hl : xs.length ≤ 99000) :
    Calls Tryd.prog 46 #[.slice A xs.length c, .int .u64 (x : Int), .int .i64 n] w (AppPost w.heap.size xs x (min n.toNat 8) w) := by
  have HX := Lib.hid hx
  clear hx
  have HM := Lib.hid (show min n.toNat 8 ≤ 8 by omega)
  generalize hm : min n.toNat 8 = m at HM
  have HC : Calls Tryd.prog 86 #[.int .i64 n] w (fun e w'' => e = .returned (.int .i64 (m : Int)) ∧ w = w'') := (byteCount_any n w).mono (fun _ _ h => by rw [hm] at h; exact h)
  clear hm
  have hm8 := HM.out
  have hr0 := Lib.hid hr
  clear hr
  go_enter Tryd.func46, Tryd.ntmps46
  go_wp2_with (first
    | (go_at_call 86; (with_reducible refine HC.mono ?_); rintro e w' ⟨rfl, rfl⟩)
    | (at_make; refine wpList_make_bytes _ rfl (.tmp 11) (.tmp 15) rfl xs.length m rfl rfl (by omega) ?_; intro w1 HG hb1 hs1)
    | (with_reducible refine wpList_copy_splice (o := ⟨some 19, _, _, _, _, _⟩) rfl (.tmp 17) (.tmp 18) 76 76 rfl 5 Tryd.underlying76 u8size (some ⟨w.heap.size, 0, none⟩) A xs.length (xs.length + m) xs.length c rfl rfl w.heap.size 0 (cb (zb (xs.length + m))) 5 HG.out (cb xs) ?c1 (fun h0 => ⟨rfl, rd_pos (hr0.out.below hb1 hB) h0⟩) ?c2 (cb_oneCell xs) w.heap.size w hb1 (Nat.le_refl _) ?_))
  case c1 => rw [cb_len]; exact (Nat.min_self _).symm
  case c2 => simp [cb_len, zb]
  · intro w2 HG2 hb2
    have hO := Lib.hid (own_spliced w.heap.size HG2.out (Nat.le_refl _) (by unfold maxLen; omega))
    clear HG2 HG hb1
    have hs2 := hb2.size
    go_wp2_with (go_at_call 87; (with_reducible refine (appendBytes_any w.heap.size _ xs x m w2 hO.out HM.out HX.out (by omega) hs2).mono ?_); rintro e w3 ⟨v', rfl, h1, h2⟩)
    go_ret
    exact ⟨_, rfl, h1, hb2.trans h2⟩
/-- the document's Copy -/
def CopyPost (xs : List UInt8) (w : World) (e : Ending) (w' : World) : Prop := ∃ v', e = .returned v' ∧ Own w' w.heap.size v' xs ∧ Below w.heap.size w w'
theorem own_empty (w : World) : Own (w.alloc (.cells #[] 5)) w.heap.size (.slice (some ⟨w.heap.size, 0, none⟩) 0 0) [] :=
  ⟨rfl, .inr ⟨w.heap.size, 0, #[], rfl, Nat.le_refl _, heap_alloc_new w _, Nat.le_refl _, by unfold maxLen; omega, rfl, rfl⟩⟩
theorem rd_ad {w : World} {B : Nat} {ad : Addr} {vs : List Value} (hr : Rd w B (some ad) vs) : ∀ j v, vs[j]? = some v → w.cell? (ad.add j) = some v := by
  intro j v hj
  obtain ⟨ad', h1, h2⟩ := rd_pos hr (by rcases Nat.eq_zero_or_pos vs.length with h | h
                                        · rw [List.eq_nil_of_length_eq_zero h] at hj; simp at hj
                                        · exact h)
  obtain rfl : ad = ad' := by simpa using h1
  exact h2 j v hj
set_option maxHeartbeats 1000000 in
theorem copy_any (xs : List UInt8) (c B : Nat) (A : Option Addr) (w : World) (hr : Rd w B A (cb xs)) (hB : B ≤ w.heap.size) (hl : xs.length ≤ 99000) (hn : A = none → xs = [] ∧ c = 0) :
    Calls Tryd.prog 107 #[.slice A xs.length c] w (CopyPost xs w) := by
  obtain ⟨i0, hi, hz0, hz1, hz2⟩ := info_parts u8info
  have HE := Lib.hid (own_empty w)
  cases A with
  | none =>
    obtain ⟨rfl, rfl⟩ := hn rfl
    clear hr
    go_enter Tryd.func107, Tryd.ntmps107
    go_wp2_with (at_builtin; refine wpList_append_own_none rfl (.tmp 3) (.tmp 4) 76 rfl w.heap.size 5 i0 1 Tryd.underlying76 hi _ 0 [] rfl HE.out rfl ?_)
    go_ret
    exact ⟨_, rfl, HE.out, (Below.refl _ _).alloc (Nat.le_refl _) _⟩
  | some ad =>
    have HS := Lib.hid (rd_ad (hr.below ((Below.refl w.heap.size w).alloc (Nat.le_refl _) (.cells #[] 5)) hB))
    clear hr
    go_enter Tryd.func107, Tryd.ntmps107
    go_wp2_with (at_builtin; refine wpList_append_own _ rfl (.tmp 3) (.tmp 4) 76 rfl w.heap.size 5 i0 (.int .u8 0) 1 1 Tryd.underlying76 hi hz0 hz1 hz2 rfl (by decide) _ 0 [] rfl HE.out ad xs.length c (cb xs) rfl ?c0 HS.out (cb_oneCell xs) ?c1 ?c2 ?c3 ?_)
    case c0 => rw [cb_len, Nat.mul_one]
    case c1 => unfold maxLen; omega
    case c2 => omega
    case c3 => simp
    · intro v' w1 hown' hgrow _
      have R1 := Lib.hid (show Own w1 w.heap.size v' xs from hown')
      have R2 := Lib.hid (((Below.refl w.heap.size w).alloc (Nat.le_refl _) (.cells #[] 5)).grown hgrow (by simp) (fun j hj => HE.out.lt j hj))
      clear hown' hgrow
      go_wp2_with fail
      go_ret
      exact ⟨_, rfl, R1.out, R2.out⟩
theorem own_rd {w : World} {base : Nat} {v : Value} {xs : List UInt8} (h : Own w base v xs) :
    ∃ A c, v = .slice A xs.length c ∧ Rd w w.heap.size A (cb xs) ∧ (A = none → xs = [] ∧ c = 0) := by
  rcases h.2 with ⟨rfl, h0⟩ | ⟨g, cap, cur, rfl, hb, hg, hnc, hcm, hcs, htake⟩
  · have : xs = [] := List.eq_nil_of_length_eq_zero h0
    subst this
    exact ⟨none, 0, rfl, Rd.nil _ _ _, fun _ => ⟨rfl, rfl⟩⟩
  · refine ⟨_, _, rfl, .inr ⟨g, 0, rfl, ?_, fun j v hj => ?_⟩, fun h => by cases h⟩
    · rcases Nat.lt_or_ge g w.heap.size with h1 | h1
      · exact h1
      · rw [Array.getElem?_eq_none h1] at hg; cases hg
    · rw [Nat.zero_add, cell_of_row w g j cur _ _ hg, ← hj, ← htake]
      have : j < (cb xs).length := by
        rcases Nat.lt_or_ge j (cb xs).length with h1 | h1
        · exact h1
        · rw [List.getElem?_eq_none h1] at hj; cases hj
      rw [List.getElem?_take, if_pos (by rw [cb_len] at this; omega)]; simp
theorem own_ley {w' : World} {base : Nat} {v : Value} {xs : List UInt8} {x k y : Nat} (hy : y = x / 256 ^ k) (h : w'.ownsRow base 5 1 v (xs.length + (le x k).length + 1) (cb (xs ++ le x k) ++ [.int .u8 ((y : Int) % 256)])) : Own w' base v (xs ++ le x (k + 1)) := by
  rw [le_snoc, ← List.append_assoc]
  refine own_push ?_
  rw [byte_of, ← hy, List.length_append]
  exact h
theorem div_w {x k y : Nat} (hx : x < 18446744073709551616) (hy : y = x / 256 ^ k) : IntKind.u64.wrap ((y : Int) / 256) = (y : Int) / 256 := by
  have h1 : y ≤ x := by rw [hy]; exact Nat.div_le_self _ _
  simp only [IntKind.wrap_u64]
  omega
end Go.Proofs.YthklbpcpmmpfmaaDoor.Fl
