/-
  Memory as cells: all bytes of an object.
-/
import Derived.Test.YtmlfooofgedmaaaHeapJ
import Derived.Test.YtmlfooofgedmaaaSpare
namespace Go.Proofs.Ytmlfooofgedmaaa.Fl
open Go.RowKit

theorem getB_int (x j : Nat) : (x : Int) / 2 ^ (j * 8) % 256 = (getB x j : Int) := by
  unfold getB
  rw [Nat.mul_comm 8 j]
  simp
theorem own_lower {w : World} {base base2 : Nat} {v : Value} {xs : List UInt8} (h : Own w base v xs) (hb : base2 ≤ base) : Own w base2 v xs := by
  refine ⟨h.1, ?_⟩
  rcases h.2 with h0 | ⟨g, cap, cur, e, hbg, hr⟩
  · exact .inl h0
  · exact .inr ⟨g, cap, cur, e, Nat.le_trans hb hbg, hr⟩
structure RawIn (L : List Nat) (i cl : Nat) (bs : List UInt8) : Prop where
  hd : HeadIn L i cl 2 bs.length 0 false
  room : i + 2 + (bs.length + 7) / 8 ≤ L.length
  val : ∀ k, (h : k < bs.length) → getB (L.getD (i + 2 + k / 8) 0) (k % 8) = bs[k].toNat
theorem RawIn.put {L : List Nat} {i cl : Nat} {bs : List UInt8} (h : RawIn L i cl bs) (hL : ∀ x ∈ L, x < 18446744073709551616) {k : Nat} (_hk : k < bs.length) (b : UInt8) (hx : i + 2 + k / 8 < L.length) :
    RawIn (L.set (i + 2 + k / 8) (putB (L[i + 2 + k / 8]) (8 * (k % 8)) b.toNat)) i cl (bs.set k b) := by
  refine ⟨⟨?_, ?_, by rw [List.length_set]; exact h.hd.ok, h.hd.lt⟩, by rw [List.length_set, List.length_set]; exact h.room, fun k2 hk2 => ?_⟩
  · rw [List.getElem?_set_ne (by omega)]; exact h.hd.a
  · rw [List.getElem?_set_ne (by omega), List.length_set]; exact h.hd.b
  · rw [List.length_set] at hk2
    have hv := h.val k2 hk2
    rw [List.getElem_set]
    by_cases e : k / 8 = k2 / 8
    · have e1 : (L.set (i + 2 + k / 8) (putB (L[i + 2 + k / 8]) (8 * (k % 8)) b.toNat)).getD (i + 2 + k2 / 8) 0 = putB (L[i + 2 + k / 8]) (8 * (k % 8)) b.toNat := by
        rw [← e, List.getD_eq_getElem?_getD, List.getElem?_set_self hx]; rfl
      rw [e1, getB_putB (hL _ (List.getElem_mem hx)) (Nat.mod_lt _ (by decide)) (Nat.mod_lt _ (by decide)) b.toNat_lt]
      by_cases e2 : k = k2
      · rw [if_pos e2, if_pos (by rw [e2])]
      · rw [if_neg e2, if_neg (by omega), ← hv, ← e, List.getD_eq_getElem?_getD, List.getElem?_eq_getElem hx]; rfl
    · rw [if_neg (by omega : ¬ k = k2), List.getD_eq_getElem?_getD, List.getElem?_set_ne (by omega), ← List.getD_eq_getElem?_getD]
      exact hv
theorem make_bytesN (w : World) (l : Nat) (h : l ≤ 200000) :
    (Instr.makeSlice 60 (.int .i64 (l : Int)) (.int .i64 (l : Int))).run Try.prog w = .ok (.slice (some ⟨w.heap.size, 0, none⟩) l l) (w.alloc (.cells (cb (zb l)).toArray 5)) := by
  obtain ⟨i0, hi, hz0, hz1, hz2⟩ := info_parts u8info
  have hmk := run_make (P := Try.prog) w 60 5 i0 (.int .u8 0) Try.underlying60 hi hz0 .i64 .i64 (l : Int) (l : Int) (by omega) (by omega) (by rw [hz2]; omega) (by omega)
  rw [hmk, hz1, show ((l : Int)).toNat = l by omega, show (Value.int .u8 0).cells = #[Value.int .u8 0] from rfl, zb_made]
theorem wpList_make_bytesN (w : World) {ops : Array Oper} {rest : List Oper} {o : Oper} {a : Act} {Q : Exit → Act → World → Prop} (hg : o.guard = none) (l c : Operand) (hop : o.op = Op.makeSlice 60 l c)
    (L : Nat) (hl : a.eval l = .int .i64 (L : Int)) (hc : a.eval c = .int .i64 (L : Int)) (h : L ≤ 200000)
    (hK : ∀ w', Hid (Own w' w.heap.size (.slice (some ⟨w.heap.size, 0, none⟩) L L) (zb L)) → Below w.heap.size w w' → w.heap.size < w'.heap.size → wpList Try.prog ops Q rest (a.put o.dst (.slice (some ⟨w.heap.size, 0, none⟩) L L)) w') :
    wpList Try.prog ops Q (o :: rest) a w :=
  wpList_make_run w _ hg l c _ hop _ _ _ hl hc (make_bytesN w L h) (hK _ (own_zero w _ (by unfold maxLen; omega)) ((Below.refl _ _).alloc (Nat.le_refl _) _) (by simp))
theorem fill_byte {bs L : List UInt8} {k : Nat} (h : ∀ j, j < k → L[j]? = bs[j]?) (hk : k < bs.length) (hL : L.length = bs.length) : ∀ j, j < k + 1 → (L.set k bs[k])[j]? = bs[j]? := by
  intro j hj
  rw [List.getElem?_set]
  by_cases e : k = j
  · subst e; rw [if_pos rfl, if_pos (by omega), List.getElem?_eq_getElem hk]
  · rw [if_neg e]; exact h j (by omega)
theorem raw_cells {sz cl : Nat} (h : hErr cl 2 sz 0 = 0) : cellsI cl (2 : Nat) sz (0 : Nat) = ((sz + 7) / 8 : Nat) := by
  unfold cellsI
  rw [if_pos (by simpa using h), if_pos (by rfl)]
  omega
def BytesPost (bs : List UInt8) (w : World) (e : Ending) (w' : World) : Prop := ∃ v', e = .returned (.tuple #[v', .int .i64 0]) ∧ Own w' w.heap.size v' bs ∧ Below w.heap.size w w'
set_option maxHeartbeats 4000000 in
theorem bytes_yes {base g gc cap gb gb2 size last : Nat} {L ws : List Nat} (i cl : Nat) (bs : List UInt8) (w : World) (h : HeapAt w base g gc cap gb gb2 size last L ws) (hi : RawIn L i cl bs) (hb : bitAt ws i = true) (h1 : 1 ≤ i) (hn : bs.length ≤ 300) :
    Calls Try.prog 27 #[.pointer (some ⟨g, 0, none⟩), .int .u64 ((i : Int) * 2)] w (BytesPost bs w) := by
  have ho := fun w' (hw' : HeapAt w' base g gc cap gb gb2 size last L ws) => object_yes i cl 2 bs.length 0 false w' hw' hi.hd hb h1
  have hww := fun w' (hw' : HeapAt w' base g gc cap gb gb2 size last L ws) => words_any i ((bs.length + 7) / 8) cl 2 bs.length 0 false w' hw' hi.hd.lt (raw_cells hi.hd.ok) hi.room
  obtain ⟨n, hnn⟩ : ∃ n, bs.length = n := ⟨_, rfl⟩
  have H := Lib.hid h
  have HI := Lib.hid hi
  rw [hnn] at ho hww hn
  have HN := Lib.hid hnn
  clear h hi hb hnn
  go_enter Try.func27, Try.ntmps27
  go_wp2_with fail
  refine (ho _ H.out).mono ?_
  rintro e w1 ⟨rfl, hb1⟩
  have s1 := hb1.size
  have H1 := Lib.hid ((H.out.below hb1).below ((Below.refl w1.heap.size w1).alloc (Nat.le_refl _) (.cells #[.int .u64 (cl : Int), .int .i64 2, .int .i64 (n : Int), .int .u32 0, .bool false] 33)))
  go_wp2_with fail
  refine (hww _ H1.out).mono ?_
  rintro e w2 ⟨A, c, rfl, hA, hb2⟩
  have Q2 : w2.heap[w1.heap.size]? = some (.cells #[.int .u64 (cl : Int), .int .i64 2, .int .i64 (n : Int), .int .u32 0, .bool false] 33 (0, 0)) := by
    rw [hb2.block _ (by simp)]; exact heap_alloc_new w1 _
  have f2 := cells5 Q2
  have hbw2 : Below w.heap.size w w2 := (hb1.alloc s1 _).trans (hb2.mono (by simp; omega))
  have H2 := Lib.hid (H.out.below hbw2)
  have HA := Lib.hid hA
  have s2 := hbw2.size
  clear ho hww hb1 hb2 Q2 hA H1 s1
  go_wp2_with (at_make; refine wpList_make_bytesN _ rfl _ _ rfl n rfl rfl (by omega) ?_; intro w3 HG hb3 hs3)
  clear f2
  go_loopw [35] (fun iv wr => ∃ (k : Nat) (P : List UInt8), k ≤ n ∧ iv = .int .i64 k ∧ P.length = n ∧ Hid (Own wr w2.heap.size (.slice (some ⟨w2.heap.size, 0, none⟩) n n) P) ∧ Hid (∀ j, j < k → P[j]? = bs[j]?) ∧ Below w2.heap.size w2 wr) (fun iv _ => n - (intOf iv).toNat)
  case atStart => exact ⟨0, zb n, Nat.zero_le _, rfl, by simp [zb], HG, Lib.hid (fun j hj => by omega), hb3⟩
  case round =>
    obtain ⟨k, P, hk, rfl, hP, HO, HQ, hbl⟩ := hrel
    clear HG hb3 hs3
    by_cases hlt : k < n
    · obtain rfl := HA.out (by omega)
      have hkb : k < bs.length := by have := HN.out; omega
      have hro := HI.out.room
      have hix : i + 2 + k / 8 < L.length := by have := HN.out; omega
      have hc1 := own_cell HO.out hP (j := k) (by omega)
      have hf1 := own_free HO.out hP k
      have hxc := (H2.out.below hbl).cell hix
      have hval := HI.out.val k hkb
      rw [List.getD_eq_getElem?_getD, List.getElem?_eq_getElem hix] at hval
      simp only [Option.getD_some] at hval
      generalize L[i + 2 + k / 8] = x at hxc hval
      have HV := Lib.hid hval
      have R2 := Lib.hid (fill_byte HQ.out hkb (by have := HN.out; omega))
      have hk8 : k / 8 < (n + 7) / 8 := by omega
      clear hval hro HQ
      have R1 := Lib.hid (own_set HO.out hP k bs[k] (z := (x : Int) / 2 ^ (k % 8 * 8) % 256) (by rw [getB_int, HV.out]))
      clear HO
      go_wp2_with fail
      go_roundw
      case rel => exact ⟨k + 1, P.set k bs[k], by omega, by simp, by rw [List.length_set]; exact hP, R1, R2, hbl.setCell (Nat.le_refl _) _⟩
      case measure => simp [intOf]; omega
    · have e : k = n := by omega
      subst e
      have HF := Lib.hid (show P = bs from List.ext_getElem? fun j => by
        rcases Nat.lt_or_ge j k with h | h
        · exact HQ.out j h
        · rw [List.getElem?_eq_none (by omega), List.getElem?_eq_none (by have := HN.out; omega)])
      go_wp2_with fail
      go_ret2
      refine ⟨_, rfl, ?_, hbw2.trans (hbl.mono s2)⟩
      have := HO.out
      rw [HF.out] at this
      exact own_lower this s2
end Go.Proofs.Ytmlfooofgedmaaa.Fl
