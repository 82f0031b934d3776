/-
  Instructions: what is read of the bytes written.
-/
import Derived.Test.YtdfghcbojbbgcaaDoorCdK
namespace Go.Proofs.YtdfghcbojbbgcaaDoor.Fl
open Go.RowKit

theorem getN_bytes (s : Nat) (la x : Int) (hs : s ≤ 2) (hla : la = 0 ∨ (s = 1 ∧ la = -128) ∨ (s = 2 ∧ la = -32768)) (h : hasC s la x = true) : getN s la (bytesN s x) = x := by
  have h0 := h
  unfold hasC at h0
  simp only [Bool.and_eq_true, decide_eq_true_eq] at h0
  obtain ⟨h1, h2⟩ := h0
  obtain rfl | rfl | rfl : s = 0 ∨ s = 1 ∨ s = 2 := by omega
  · obtain rfl : la = 0 := by omega
    have h2' : x < 0 + 1 := h2
    obtain rfl : x = 0 := by omega
    rfl
  · have h2' : x < la + 256 := h2
    have hv : valN (bytesN 1 x) = x % 256 := byteI_nat x
    unfold getN hasC
    rw [hv]
    show (if (decide (la ≤ x % 256) && decide (x % 256 < la + 256)) = true then x % 256 else x % 256 - 256) = x
    simp only [Bool.and_eq_true, decide_eq_true_eq]
    split <;> omega
  · have h2' : x < la + 65536 := h2
    have hv : valN (bytesN 2 x) = x % 65536 := by
      show ((byteI x).toNat : Int) + ((byteI (x / 256)).toNat : Int) * 256 = _
      rw [byteI_nat, byteI_nat]
      omega
    unfold getN hasC
    rw [hv]
    show (if (decide (la ≤ x % 65536) && decide (x % 65536 < la + 65536)) = true then x % 65536 else x % 65536 - 65536) = x
    simp only [Bool.and_eq_true, decide_eq_true_eq]
    split <;> omega
theorem enc1_len {op a b : Int} (h : isI op a b = true) : 1 ≤ (enc1 (op, a, b)).length ∧ (enc1 (op, a, b)).length ≤ 5 := by
  obtain ⟨k, rfl, hk⟩ := isI_op h
  obtain ⟨nmx, sa, la, sb, t, u, hrow, ⟨hsa, hsb⟩, hla, _⟩ := formsL_get2 hk
  unfold enc1 sizeA sizeB
  simp only [Int.toNat_natCast, hrow, Option.map_some, Option.getD_some, List.length_cons, List.length_append]
  rw [bytesN_len sa a hsa, bytesN_len sb b hsb]
  omega
/-- an instruction's bytes are read back -/
theorem dec_enc {op a b : Int} (h : isI op a b = true) (pre post : List UInt8) : decR (pre ++ enc1 (op, a, b) ++ post) (pre.length : Int) = .inl ((op, a, b), pre.length + (enc1 (op, a, b)).length) := by
  obtain ⟨k, rfl, hk⟩ := isI_op h
  obtain ⟨nmx, sa, la, sb, t, u, hrow, ⟨hsa, hsb⟩, hla, _⟩ := formsL_get2 hk
  have hI : hasC sa la a = true ∧ hasC sb 0 b = true := by
    unfold isI at h
    rw [if_pos ⟨by omega, by omega⟩, Int.toNat_natCast, hrow] at h
    simpa using h
  have he : enc1 ((k : Int), a, b) = byteI (k : Int) :: (bytesN sa a ++ bytesN sb b) := by
    unfold enc1 sizeA sizeB
    simp only [Int.toNat_natCast, hrow, Option.map_some, Option.getD_some]
  have la' := bytesN_len sa a hsa
  have lb' := bytesN_len sb b hsb
  have hk8 : ((byteI (k : Int)).toNat : Int) = (k : Int) := by rw [byteI_nat]; omega
  have hk8' : (byteI (k : Int)).toNat = k := by omega
  rw [he]
  have hlen : (pre ++ byteI (k : Int) :: (bytesN sa a ++ bytesN sb b) ++ post).length = pre.length + 1 + sa + sb + post.length := by
    simp only [List.length_append, List.length_cons, la', lb']; omega
  have hg : (pre ++ byteI (k : Int) :: (bytesN sa a ++ bytesN sb b) ++ post).getD pre.length 0 = byteI (k : Int) := by
    rw [List.getD_eq_getElem?_getD, List.append_assoc, List.getElem?_append_right (Nat.le_refl _), Nat.sub_self]
    rfl
  have hA : bytesAt (pre ++ byteI (k : Int) :: (bytesN sa a ++ bytesN sb b) ++ post) (pre.length + 1) sa = bytesN sa a := by
    unfold bytesAt
    rw [show pre ++ byteI (k : Int) :: (bytesN sa a ++ bytesN sb b) ++ post = (pre ++ [byteI (k : Int)]) ++ (bytesN sa a ++ (bytesN sb b ++ post)) by simp, List.drop_left' (by simp), List.take_left' la']
  have hB : bytesAt (pre ++ byteI (k : Int) :: (bytesN sa a ++ bytesN sb b) ++ post) (pre.length + 1 + sa) sb = bytesN sb b := by
    unfold bytesAt
    rw [show pre ++ byteI (k : Int) :: (bytesN sa a ++ bytesN sb b) ++ post = (pre ++ [byteI (k : Int)] ++ bytesN sa a) ++ (bytesN sb b ++ post) by simp, List.drop_left' (by simp [la']; omega), List.take_left' lb']
  generalize pre ++ byteI (k : Int) :: (bytesN sa a ++ bytesN sb b) ++ post = bs at *
  unfold decR
  rw [if_neg (by omega), if_neg (by omega)]
  simp only [Int.toNat_natCast, hg, hk8', hrow]
  rw [if_neg (by omega), hA, hB, getN_bytes sa la a hsa hla hI.1, getN_bytes sb 0 b hsb (.inl rfl) hI.2]
  simp only [List.length_cons, List.length_append, la', lb']
  congr 2
  omega
theorem encR_cons {x : Ins} {l : List Ins} {bs : List UInt8} (h : encR (x :: l) = some bs) : isI x.1 x.2.1 x.2.2 = true ∧ ∃ cs, encR l = some cs ∧ bs = enc1 x ++ cs := by
  rw [encR] at h
  split at h
  · next hi =>
    refine ⟨hi, ?_⟩
    cases hr : encR l with
    | none => rw [hr] at h; cases h
    | some cs => rw [hr] at h; injection h with h; exact ⟨cs, rfl, h.symm⟩
  · cases h
/-- the bytes ahead of an instruction, and behind it -/
theorem encR_drop : ∀ (l : List Ins) (bs : List UInt8), encR l = some bs → ∀ k, k ≤ l.length → ∃ pre cs, bs = pre ++ cs ∧ encR (l.drop k) = some cs
  | l, bs, h, 0, _ => ⟨[], bs, rfl, by rw [List.drop_zero]; exact h⟩
  | x :: l, bs, h, k + 1, hk => by
    obtain ⟨_, cs, hcs, rfl⟩ := encR_cons h
    obtain ⟨pre, ds, rfl, hd⟩ := encR_drop l cs hcs k (by simpa using hk)
    exact ⟨enc1 x ++ pre, ds, by simp, hd⟩
/-! ### instructions of the call's own -/
theorem instrinfo : (Tryd.prog.info? 34).map (fun i => (i.zero, i.size, i.bytes)) = some (some (.agg #[.int .i64 0, .int .i64 0, .int .i64 0]), 3, 24) := by kernel_rfl
def OwnI (w : World) (base : Nat) (v : Value) (l : List Ins) : Prop := w.ownsRow base 34 3 v l.length (ci l)
theorem OwnI.below {w w' : World} {base : Nat} {v : Value} {xs : List Ins} (h : OwnI w base v xs) (hb : Below w.heap.size w w') : OwnI w' base v xs :=
  ⟨h.1, h.2.elim .inl fun ⟨g, cap, cur, hv, hbg, hg, r⟩ => .inr ⟨g, cap, cur, hv, hbg, (hb.block g (lt_of_blkC hg)).trans hg, r⟩⟩
theorem ownI_nil (w : World) (base : Nat) : OwnI w base (.slice none 0 0) [] := World.ownsRow_nil _ _ _ _
theorem wpList_append_i {w : World} {base c : Nat} {A : Option Addr} {xs news : List Ins} {v : Value} {ops : Array Oper} {rest : List Oper} {o : Oper} {a : Act} {Q : Exit → Act → World → Prop} (hg : o.guard = none) (s x : Operand) (ho : o.op = .call { callee := .builtin .append, args := #[s, x], argTypes := #[55, 55] })
    (hs : a.eval s = v) (hx : a.eval x = .slice A news.length c) (hown : OwnI w base v xs) (hr : Rd w w.heap.size A (ci news)) (hA : A = none → news.length = 0) (hl : xs.length ≤ 100000000) (hl2 : news.length ≤ 100000000) (hb : base ≤ w.heap.size)
    (h : ∀ A' ts c' w', Hid (ts = xs ++ news) → Hid (OwnI w' base (.slice A' ts.length c') ts) → Hid (Below base w w' ∧ ∀ k, k < w.heap.size → some k ≠ v.ownBlock → w'.heap[k]? = w.heap[k]?) → wpList Tryd.prog ops Q rest (a.put o.dst (.slice A' ts.length c')) w') : wpList Tryd.prog ops Q (o :: rest) a w := by
  obtain ⟨i0, hi, hz0, hz1, hz2⟩ := info_parts instrinfo
  refine wpList_append_rd (base := base) (size := 3) (bytes := 24) (n := xs.length) (m := news.length) (c := c) (v := v) (xs := ci xs) (news := ci news) hg s x ho Tryd.underlying55 hi hz0 hz1 hz2 rfl (by decide) hs hx hown hr (ci_len _) hA (ci_one news) (by unfold maxLen; omega) (by omega) hb ?_
  intro v' w' happ
  obtain ⟨A', c', rfl, _, _⟩ := happ.slice
  have e : xs.length + news.length = (xs ++ news).length := by simp
  have ho := happ.own
  rw [e, show ci xs ++ ci news = ci (xs ++ news) from (ci_app _ _).symm] at ho
  rw [e]
  exact h A' (xs ++ news) c' w' (Lib.hid rfl) (Lib.hid ho) (Lib.hid ⟨(Below.refl _ _).grown happ.grown hb (fun j hj => (World.ownsRow.lt hown j hj).1), happ.grown.block⟩)
theorem ownI_rd {w : World} {base n c : Nat} {A : Option Addr} {xs : List Ins} (h : OwnI w base (.slice A n c) xs) : Rd w w.heap.size A (ci xs) := by
  rcases h.2 with ⟨_, e2⟩ | ⟨g, cap, cur, e1, hb, hg, _, _, _, ht⟩
  · rw [List.eq_nil_of_length_eq_zero e2]; exact .inl rfl
  · injection e1 with e1 _ _
    subst e1
    refine .inr ⟨g, 0, rfl, lt_of_blkC hg, fun j v hj => ?_⟩
    have hjl : j < xs.length * 3 := by
      rcases Nat.lt_or_ge j (ci xs).length with h1 | h1
      · rwa [ci_len] at h1
      · rw [List.getElem?_eq_none h1] at hj; cases hj
    rw [Nat.zero_add, cell_of_row w g j _ _ _ hg, ← hj, ← ht, List.getElem?_take, if_pos (by omega)]
    simp
theorem rd_oneI (w : World) (x y z : Int) : Rd (w.alloc (.cells #[.int .i64 x, .int .i64 y, .int .i64 z] 34)) (w.alloc (.cells #[.int .i64 x, .int .i64 y, .int .i64 z] 34)).heap.size (some ⟨w.heap.size, 0, none⟩) (ci [(x, y, z)]) := by
  obtain ⟨c0, c1, c2, _⟩ := three_cellsC (heap_alloc_new w (.cells #[.int .i64 x, .int .i64 y, .int .i64 z] 34))
  refine .inr ⟨w.heap.size, 0, rfl, by rw [World.size_alloc]; omega, fun j v hj => ?_⟩
  have hj' : [Value.int .i64 x, .int .i64 y, .int .i64 z][j]? = some v := hj
  rw [Nat.zero_add]
  rcases j with _ | _ | _ | j
  · exact c0.trans hj'
  · exact c1.trans hj'
  · exact c2.trans hj'
  · simp at hj'
end Go.Proofs.YtdfghcbojbbgcaaDoor.Fl
