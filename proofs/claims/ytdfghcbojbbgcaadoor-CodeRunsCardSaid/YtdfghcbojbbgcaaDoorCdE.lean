/-
  Instructions: Encode.
-/
import Derived.Test.YtdfghcbojbbgcaaDoorCdD
namespace Go.Proofs.YtdfghcbojbbgcaaDoor.Fl
open Go.RowKit

abbrev Ins := Int × Int × Int
def ci : List Ins → List Value
  | [] => []
  | x :: l => [.int .i64 x.1, .int .i64 x.2.1, .int .i64 x.2.2] ++ ci l
theorem ci_len : ∀ l : List Ins, (ci l).length = l.length * 3
  | [] => rfl
  | x :: l => by rw [ci, List.length_append, ci_len l, List.length_cons]; show 3 + l.length * 3 = (l.length + 1) * 3; omega
theorem ci_app : ∀ l m : List Ins, ci (l ++ m) = ci l ++ ci m
  | [], _ => rfl
  | x :: l, m => by rw [List.cons_append, ci, ci, ci_app l m, List.append_assoc]
theorem ci_one : ∀ (l : List Ins), ∀ v ∈ ci l, v.oneCell' = true
  | [], v, h => by cases h
  | x :: l, v, h => by
    rw [ci, List.mem_append] at h
    rcases h with h | h
    · simp only [List.mem_cons, List.not_mem_nil, or_false] at h
      rcases h with rfl | rfl | rfl <;> rfl
    · exact ci_one l v h
theorem ci_at : ∀ (l : List Ins) (k : Nat) (h : k < l.length), (ci l)[k * 3]? = some (.int .i64 l[k].1) ∧ (ci l)[k * 3 + 1]? = some (.int .i64 l[k].2.1) ∧ (ci l)[k * 3 + 2]? = some (.int .i64 l[k].2.2)
  | x :: l, 0, _ => ⟨rfl, rfl, rfl⟩
  | x :: l, k + 1, h => by
    have ih := ci_at l k (by simpa using h)
    have e : ∀ j, (ci (x :: l))[(k + 1) * 3 + j]? = (ci l)[k * 3 + j]? := fun j => by
      rw [ci, List.getElem?_append_right (show ([Value.int .i64 x.1, .int .i64 x.2.1, .int .i64 x.2.2] : List Value).length ≤ _ by show 3 ≤ _; omega)]
      show (ci l)[(k + 1) * 3 + j - 3]? = _
      rw [show (k + 1) * 3 + j - 3 = k * 3 + j by omega]
    have e0 := e 0
    rw [Nat.add_zero, Nat.add_zero] at e0
    rw [e0, e 1, e 2]
    exact ih
theorem rdI_at {w : World} {B : Nat} {A : Option Addr} {xs : List Ins} (h : Rd w B A (ci xs)) {k : Nat} (hk : k < xs.length) {op a b : Int} (hx : xs[k] = (op, a, b)) :
    ∃ g off, A = some ⟨g, off, none⟩ ∧ g < B ∧ w.cell? ⟨g, off + k * 3, none⟩ = some (.int .i64 op) ∧ w.cell? ⟨g, off + k * 3 + 1, none⟩ = some (.int .i64 a) ∧ w.cell? ⟨g, off + k * 3 + 2, none⟩ = some (.int .i64 b) := by
  rcases h with h | ⟨g, off, rfl, hb, hc⟩
  · have := congrArg List.length h
    rw [ci_len] at this
    simp only [List.length_nil] at this
    omega
  · obtain ⟨h0, h1, h2⟩ := ci_at xs k hk
    rw [hx] at h0 h1 h2
    exact ⟨g, off, rfl, hb, hc _ _ h0, hc _ _ h1, hc _ _ h2⟩
def sizeA (op : Int) : Nat := ((formsL[op.toNat]?).map fun r => r.2.1.toNat).getD 0
def sizeB (op : Int) : Nat := ((formsL[op.toNat]?).map fun r => r.2.2.2.1.toNat).getD 0
/-- an instruction's bytes -/
def enc1 (x : Ins) : List UInt8 := byteI x.1 :: (bytesN (sizeA x.1) x.2.1 ++ bytesN (sizeB x.1) x.2.2)
def encR : List Ins → Option (List UInt8)
  | [] => some []
  | x :: l => if isI x.1 x.2.1 x.2.2 = true then (encR l).map (enc1 x ++ ·) else none
theorem bytesN_len (s : Nat) (n : Int) (h : s ≤ 2) : (bytesN s n).length = s := by
  obtain rfl | rfl | rfl : s = 0 ∨ s = 1 ∨ s = 2 := by omega
  all_goals rfl
theorem isI_op {op a b : Int} (h : isI op a b = true) : ∃ k : Nat, op = (k : Int) ∧ k < 20 := by
  unfold isI at h
  split at h
  · next hc => exact ⟨op.toNat, by omega, by omega⟩
  · cases h
theorem formV_at (nmx : List UInt8) (a la b lb t u : Int) : formV (nmx, a, la, b, lb, t, u) = [.string ⟨nmx.toArray⟩, .int .i64 a, .int .i64 la, .int .i64 b, .int .i64 lb, .int .i64 t, .int .i64 u] := rfl
theorem seven_cellsC {w : World} {g : Nat} {v0 v1 v2 v3 v4 v5 v6 : Value} {T : TypeId} (h : w.heap[g]? = some (.cells #[v0, v1, v2, v3, v4, v5, v6] T (0, 0))) :
    w.cell? ⟨g, 0, none⟩ = some v0 ∧ w.cell? ⟨g, 1, none⟩ = some v1 ∧ w.cell? ⟨g, 2, none⟩ = some v2 ∧ w.cell? ⟨g, 3, none⟩ = some v3 ∧ w.cell? ⟨g, 4, none⟩ = some v4 ∧ w.cell? ⟨g, 5, none⟩ = some v5 ∧ w.cell? ⟨g, 6, none⟩ = some v6 ∧ ∀ k, w.frozen? ⟨g, k, none⟩ = false :=
  ⟨cell_of_row _ _ _ _ _ _ h, cell_of_row _ _ _ _ _ _ h, cell_of_row _ _ _ _ _ _ h, cell_of_row _ _ _ _ _ _ h, cell_of_row _ _ _ _ _ _ h, cell_of_row _ _ _ _ _ _ h, cell_of_row _ _ _ _ _ _ h, fun k => frozen_of_row _ _ _ _ _ h⟩
def EncPost (l : List Ins) (w : World) (e : Ending) (w' : World) : Prop :=
  Below w.heap.size w w' ∧ ((∃ bs A c, encR l = some bs ∧ bs.length ≤ 5 * l.length ∧ e = .returned (.tuple #[.slice A bs.length c, .int .i64 0]) ∧ OwnB w' w.heap.size (.slice A bs.length c) bs) ∨ (encR l = none ∧ e = .returned (.tuple #[.slice none 0 0, .int .i64 1])))
set_option maxRecDepth 100000 in
set_option maxHeartbeats 4000000 in
theorem encode_any (l : List Ins) (A : Option Addr) (c B : Nat) (w : World) (hr : Rd w B A (ci l)) (hB : B ≤ w.heap.size) (hl : l.length ≤ 10000) (hw : ∀ x ∈ l, -9223372036854775808 ≤ x.2.1 ∧ x.2.1 ≤ 9223372036854775807 ∧ -9223372036854775808 ≤ x.2.2 ∧ x.2.2 ≤ 9223372036854775807) (hF : FormsAt w) :
    Calls Tryd.prog 7 #[.slice A l.length c] w (EncPost l w) := by
  have HR0 := Lib.hid (hr.more hB)
  have HF0 := Lib.hid (fun w' (h : Below w.heap.size w w') => hF.below h)
  have HW := Lib.hid hw
  clear hr hB hF hw
  go_enter Tryd.func7, Tryd.ntmps7
  go_wp2_with fail
  go_loopw [4, 10] (fun v4 v10 wr => ∃ (k : Nat) (A' : Option Addr) (c' : Nat) (ts : List UInt8), k ≤ l.length ∧ v4 = .slice A' ts.length c' ∧ v10 = .int .i64 (k : Int) ∧ ts.length ≤ 5 * k ∧ Hid ((encR (l.drop k)).map (ts ++ ·) = encR l) ∧ Hid (OwnB wr w.heap.size (.slice A' ts.length c') ts) ∧ Hid (Below w.heap.size w wr)) (fun _ v10 _ => l.length - (intOf v10).toNat)
  case atStart => exact ⟨0, none, 0, [], Nat.zero_le _, rfl, rfl, Nat.zero_le _, Lib.hid (by rw [List.drop_zero]; cases encR l <;> rfl), Lib.hid (ownB_nil _ _), Lib.hid (Below.refl _ _)⟩
  case round =>
    obtain ⟨k, A', c', ts, hk, rfl, rfl, htk, HT, HO, HB⟩ := hrel
    by_cases hkl : k < l.length
    · obtain ⟨op, a, b, he⟩ : ∃ op a b, l[k] = (op, a, b) := ⟨_, _, _, rfl⟩
      have hwf := HW.out l[k] (List.getElem_mem _)
      rw [he] at hwf
      obtain ⟨wa0, wa1, wb0, wb1⟩ := hwf
      obtain ⟨g, o, rfl, hg, c0, c1, c2⟩ := rdI_at (HR0.out.below HB.out (Nat.le_refl _)) hkl he
      have hgw := Nat.lt_of_lt_of_le hg HB.out.size
      have hnb : Below wr.heap.size wr (wr.alloc (.cells #[.int .i64 op, .int .i64 a, .int .i64 b] 34)) := (Below.refl _ _).alloc (Nat.le_refl _) _
      have hw1 := heap_alloc_new wr (.cells #[.int .i64 op, .int .i64 a, .int .i64 b] 34)
      have HB1 := Lib.hid (HB.out.trans (hnb.mono HB.out.size))
      have HO1 := Lib.hid (HO.out.below hnb)
      have f1 := three_cellsC hw1
      have l1 : wr.heap.size < (wr.alloc (.cells #[.int .i64 op, .int .i64 a, .int .i64 b] 34)).heap.size := lt_of_blkC hw1
      have his := isInstr_any op a b _ (HF0.out _ HB1.out)
      have HOl := Lib.hid (fun j (hj : (Value.slice A' ts.length c').ownBlock = some j) => (World.ownsRow.lt HO.out j hj).2)
      have HTe := HT.out
      rw [List.drop_eq_getElem_cons hkl, he, encR] at HTe
      have HT2 := Lib.hid HTe
      clear HTe HT hnb
      cases hii : isI op a b
      · rw [hii] at his
        have HT3 : Hid (encR l = none) := Lib.hid (by rw [← HT2.out]; simp only [hii, Bool.false_eq_true, if_false]; rfl)
        go_wp2_with fail
        refine his.mono ?_
        rintro e w2 ⟨rfl, hb2⟩
        have HB2 := Lib.hid (HB1.out.trans (hb2.mono HB1.out.size))
        clear his hb2
        go_wp2_with fail
        go_ret2
        exact ⟨HB2.out, .inr ⟨HT3.out, rfl⟩⟩
      · rw [hii] at his
        obtain ⟨kk, rfl, hkk⟩ := isI_op hii
        have HT3 : Hid (((encR (l.drop (k + 1))).map (enc1 ((kk : Int), a, b) ++ ·)).map (ts ++ ·) = encR l) := Lib.hid (by rw [← HT2.out]; simp only [hii, if_true])
        obtain ⟨nmx, sa, la, sb, lb, t, u, hrow, ⟨hsa, hsb⟩, ⟨hla, hla0⟩, rfl⟩ := formsL_get hkk
        have HE1 : Hid (enc1 ((kk : Int), a, b) = byteI (kk : Int) :: (bytesN sa a ++ bytesN sb b)) := Lib.hid (by
          unfold enc1 sizeA sizeB
          simp only [Int.toNat_natCast, hrow, Option.map_some, Option.getD_some])
        clear HT2
        go_wp2_with fail
        refine his.mono ?_
        rintro e w2 ⟨rfl, hb2⟩
        have HB2 := Lib.hid (HB1.out.trans (hb2.mono HB1.out.size))
        have HO2 := Lib.hid (HO1.out.below hb2)
        have hw2 := (hb2.block _ l1).trans hw1
        have l2 := Nat.lt_of_lt_of_le l1 hb2.size
        have f2 := three_cellsC hw2
        obtain ⟨g0, g1, g2, g3, g4, g5, g6⟩ := (HF0.out _ HB2.out).row hrow
        have hgl := (HF0.out _ HB2.out).lt
        have h0s := hb2.size
        clear his hb2 hw1 f1 l1 HB1 HO1 c0 c1 c2
        go_upto_region 8 with fail
        clear hkk hrow g0 g1 g2 g3 g4 g5 g6 hgl
        have hnb3 : Below w2.heap.size w2 (w2.alloc (.cells #[.string ⟨nmx.toArray⟩, .int .i64 (sa : Int), .int .i64 la, .int .i64 (sb : Int), .int .i64 0, .int .i64 t, .int .i64 u] 52)) := (Below.refl _ _).alloc (Nat.le_refl _) _
        have hw3f := heap_alloc_new w2 (.cells #[.string ⟨nmx.toArray⟩, .int .i64 (sa : Int), .int .i64 la, .int .i64 (sb : Int), .int .i64 0, .int .i64 t, .int .i64 u] 52)
        have hw3i := (hnb3.block _ l2).trans hw2
        have HB3 := Lib.hid (HB2.out.trans (hnb3.mono HB2.out.size))
        have HO3 := Lib.hid (HO2.out.below hnb3)
        have l3 := lt_of_blkC hw3f
        have l3i := Nat.lt_of_lt_of_le l2 hnb3.size
        clear hnb3 hw2 f2 HB2 HO2
        generalize w2.alloc (.cells #[.string ⟨nmx.toArray⟩, .int .i64 (sa : Int), .int .i64 la, .int .i64 (sb : Int), .int .i64 0, .int .i64 t, .int .i64 u] 52) = w3 at *
        have f3 := three_cellsC hw3i
        have hba : Below w3.heap.size w3 (w3.alloc (.cells #[.int .u8 ((kk : Int) % 256)] 5)) := (Below.refl _ _).alloc (Nat.le_refl _) _
        have HO4 := Lib.hid (HO3.out.below hba)
        have HR1 := Lib.hid (rd_oneZ w3 (kk : Int))
        have hb3s := HB3.out.size
        have HOl2 : Hid (some wr.heap.size ≠ (Value.slice A' ts.length c').ownBlock ∧ some w2.heap.size ≠ (Value.slice A' ts.length c').ownBlock) := Lib.hid ⟨fun e => Nat.lt_irrefl _ (HOl.out _ e.symm), fun e => by have := HOl.out _ e.symm; omega⟩
        go_wp2_with (at_builtin; refine wpList_append_u (base := w.heap.size) (v := .slice A' ts.length c') (xs := ts) (news := [byteI (kk : Int)]) rfl _ _ rfl rfl rfl HO4.out HR1.out (fun h => by cases h) (by omega) (by simp) (by rw [World.size_alloc]; omega) ?_; intro A4 t4 c4 w4 HT4 HO5 HB4; have HX4 : Hid (∀ j, j < w3.heap.size → some j ≠ (Value.slice A' ts.length c').ownBlock → w4.heap[j]? = w3.heap[j]?) := Lib.hid (fun j hj hn => (HB4.out.2.1 j (by rw [World.size_alloc]; omega) hn).trans (Below.heap_alloc _ _ _ (by omega))); have hw4i := (HX4.out _ l3i HOl2.out.1).trans hw3i; have hw4f := (HX4.out _ l3 HOl2.out.2).trans hw3f; have f4i := three_cellsC hw4i; have f4f := seven_cellsC hw4f; have l4i := lt_of_blkC hw4i; have l4f := lt_of_blkC hw4f)
        have ht4 : Hid (t4.length = ts.length + 1) := Lib.hid (by rw [HT4.out, List.length_append]; rfl)
        have HB5 := Lib.hid ((HB3.out.alloc (by omega) (.cells #[.int .u8 ((kk : Int) % 256)] 5)).trans HB4.out.1)
        have hb5s := HB5.out.size
        have hp1 := put_any sa hsa la a w.heap.size _ t4 A4 c4 w4 rfl HO5.out (by have := ht4.out; omega) hb5s wa0 wa1
        have hn4 : some wr.heap.size ≠ (Value.slice A4 t4.length c4).ownBlock ∧ some w2.heap.size ≠ (Value.slice A4 t4.length c4).ownBlock := by
          rcases HB4.out.2.2 with e | e
          · rw [e]; exact HOl2.out
          · rw [e, World.size_alloc]
            exact ⟨fun h => by injection h with h; omega, fun h => by injection h with h; omega⟩
        refine hp1.mono ?_
        rintro e w5 ⟨A5, c5, rfl, hO5, hB5, hK5, hA5⟩
        have hw5i := (hK5 _ l4i hn4.1).trans hw4i
        have hw5f := (hK5 _ l4f hn4.2).trans hw4f
        have hn5 : some wr.heap.size ≠ (Value.slice A5 (t4 ++ bytesN sa a).length c5).ownBlock ∧ some w2.heap.size ≠ (Value.slice A5 (t4 ++ bytesN sa a).length c5).ownBlock := by
          refine ⟨fun e => ?_, fun e => ?_⟩
          · rcases hA5 _ e.symm with h | h
            · exact hn4.1 h.symm
            · omega
          · rcases hA5 _ e.symm with h | h
            · exact hn4.2 h.symm
            · omega
        have HB6 := Lib.hid (HB5.out.trans hB5)
        have HO6 := Lib.hid hO5
        have ht5 : Hid ((t4 ++ bytesN sa a).length = ts.length + 1 + sa) := Lib.hid (by rw [List.length_append, ht4.out, bytesN_len sa a hsa])
        have HT5 : Hid (t4 ++ bytesN sa a = ts ++ (byteI (kk : Int) :: bytesN sa a)) := Lib.hid (by rw [HT4.out, List.append_assoc]; rfl)
        have f5i := three_cellsC hw5i
        have f5f := seven_cellsC hw5f
        have l5i := lt_of_blkC hw5i
        have l5f := lt_of_blkC hw5f
        have hb6s := HB6.out.size
        generalize t4 ++ bytesN sa a = t5 at *
        have hp2 := put_any sb hsb 0 b w.heap.size _ t5 A5 c5 w5 rfl HO6.out (by have := ht5.out; omega) hb6s wb0 wb1
        clear hp1 hO5 hB5 hK5 hA5 hn4 hw4i hw4f f4i f4f hw3i hw3f f3 l3 l3i l4i l4f HX4 HB4 HO5 HO4 HO3 HR1 hba HT4 HOl2
        go_wp2_with fail
        refine hp2.mono ?_
        rintro e w6 ⟨A6, c6, rfl, hO6, hB6, hK6, hA6⟩
        have ht6 : Hid ((t5 ++ bytesN sb b).length = ts.length + 1 + sa + sb) := Lib.hid (by rw [List.length_append, ht5.out, bytesN_len sb b hsb])
        have HT6 : Hid (t5 ++ bytesN sb b = ts ++ enc1 ((kk : Int), a, b)) := Lib.hid (by rw [HT5.out, HE1.out, List.append_assoc]; rfl)
        have HB7 := Lib.hid (HB6.out.trans hB6)
        have HO7 := Lib.hid hO6
        have HT7 : Hid ((encR (l.drop (k + 1))).map ((t5 ++ bytesN sb b) ++ ·) = encR l) := Lib.hid (by
          rw [← HT3.out, HT6.out, Option.map_map]
          congr 1
          funext z
          simp)
        clear hp2 hO6 hB6 hK6 hA6 hw5i hw5f f5i f5f l5i l5f HO6 HB6
        go_wp2_with fail
        go_roundw
        case rel => exact ⟨k + 1, A6, c6, t5 ++ bytesN sb b, hkl, by rw [List.length_append], rfl, by have := ht6.out; omega, HT7, HO7, HB7⟩
        case measure => simp [intOf]; omega
    · have HTe := HT.out
      rw [List.drop_of_length_le (by omega), encR] at HTe
      have HT2 : Hid (encR l = some ts) := Lib.hid (by rw [← HTe]; simp)
      clear HTe HT
      go_wp2_with fail
      go_ret2
      exact ⟨HB.out, .inl ⟨ts, A', c', HT2.out, by omega, rfl, HO.out⟩⟩
end Go.Proofs.YtdfghcbojbbgcaaDoor.Fl
