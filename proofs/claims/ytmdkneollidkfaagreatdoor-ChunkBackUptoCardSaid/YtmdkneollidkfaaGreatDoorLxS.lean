/-
  strings.Builder, and ReplaceAll, at this dump.
-/
import Derived.Test.YtmdkneollidkfaaGreatDoorLxA
import Derived.Test.YtmdkneollidkfaaGreatDoorShelf
import Derived.Shelf.Strings.Builder1
import Derived.Shelf.Strings.Builder2
import Derived.Shelf.Strings.Replace
import Derived.Deep.DeepCutAuto
namespace Go.Proofs.YtmdkneollidkfaaGreatDoor.Fl
open Go.RowKit

theorem u8infoL : (Tryz.prog.info? 5).map (fun i => (i.zero, i.size, i.bytes)) = some (some (.int .u8 0), 1, 1) := by kernel_rfl
/-- a builder of a block of the call's own that holds these bytes -/
abbrev BldAt (w : World) (B b : Nat) (p : Value) (l : List UInt8) : Prop := Lib.BuilderAt 81 5 B b p (Lib.byteCells l) w
set_option maxRecDepth 100000 in
theorem copyCheck_used (b : Nat) (w : World) (h0 : w.cell? ⟨b, 0, none⟩ = some (.pointer (some ⟨b, 0, none⟩))) :
    Calls Tryz.prog 98 #[.pointer (some ⟨b, 0, none⟩)] w fun e w' => e = .returned (.tuple #[]) ∧ w = w' := by
  go_enter Tryz.func98, Tryz.ntmps98
  obtain ⟨j, hj⟩ := Option.isSome_iff_exists.1 (show (Tryz.prog.info? 81).isSome = true by kernel_rfl)
  go_wp2_with fail
  rw [Lib.run_neq_ptr_same w _ Tryz.underlying78 hj]
  go_wp2
  go_end0
  exact ⟨rfl, rfl⟩
theorem strCells_sb (s : ByteArray) : Lib.strCells s = Lib.byteCells (sb s) := Lib.strCells_eq s
set_option maxRecDepth 100000 in
set_option maxHeartbeats 1000000 in
theorem writeString_any (B b : Nat) (l : List UInt8) (s : ByteArray) (w : World) (h : BldAt w B b (.pointer (some ⟨b, 0, none⟩)) l) (hlen : l.length + s.size ≤ 140737488355328) (hBw : B ≤ w.heap.size) :
    Calls Tryz.prog 65 #[.pointer (some ⟨b, 0, none⟩), .string s] w fun e w' => e = .returned (.tuple #[.int .i64 s.size, .nilIface]) ∧ BldAt w' B b (.pointer (some ⟨b, 0, none⟩)) (l ++ sb s) ∧ Below B w w' := by
  obtain ⟨i0, hi, hz0, hz1, hz2⟩ := info_parts u8infoL
  have hcc := copyCheck_used b w h.cell0
  obtain ⟨hB, v, hbk, hown, hne⟩ := h
  have c1 : w.cell? ⟨b, 1, none⟩ = some v := by rw [Lib.cell_of_heap hbk]; rfl
  have hlb : (Lib.byteCells l).length = l.length := Lib.byteCells_length l
  rw [hlb] at hown
  have HOw := Lib.hid hown
  have HBk := Lib.hid hbk
  have HNe := Lib.hid hne
  clear hown hbk hne hlb
  go_enter Tryz.func65, Tryz.ntmps65
  go_wp2_with fail
  refine hcc.mono ?_
  rintro e w1 ⟨rfl, rfl⟩
  clear hcc
  go_wp2_with (at_builtin; refine Lib.wpList_append_own_string _ rfl _ _ 79 9 rfl B 5 i0 Tryz.underlying79 Tryz.underlying9 hi hz0 hz1 hz2 _ _ _ rfl HOw.out s rfl ?c3 ?c4 ?c5 ?_)
  case c3 => unfold maxLen; omega
  case c4 => omega
  case c5 => exact hBw
  intro v' w2 hown' hgrow _
  have hlt := lt_of_blk HBk.out
  have hb2 : w2.heap[b]? = some (.cells #[.pointer (some ⟨b, 0, none⟩), v] 81 (0, 0)) := (hgrow.block b hlt (fun e => HNe.out e.symm)).trans HBk.out
  have d0 : w2.cell? ⟨b, 0, none⟩ = some (.pointer (some ⟨b, 0, none⟩)) := by rw [Lib.cell_of_heap hb2]; rfl
  have d1 : w2.cell? ⟨b, 1, none⟩ = some v := by rw [Lib.cell_of_heap hb2]; rfl
  have f1 : w2.frozen? ⟨b, 1, none⟩ = false := Lib.frozen_of_heap hb2 1
  have hlt2 := lt_of_blk hb2
  obtain ⟨ao, n', cap, rfl⟩ : ∃ ao n' cap, v' = .slice ao n' cap := by
    rcases hown'.2 with ⟨hv, _⟩ | ⟨g, cap, cur, hv, _⟩
    · exact ⟨_, _, _, hv⟩
    · exact ⟨_, _, _, hv⟩
  have HO2 := Lib.hid hown'
  have HG2 := Lib.hid hgrow
  have HB2 := Lib.hid hb2
  clear hown' hgrow hb2
  go_wp2_with fail
  go_ret2
  refine ⟨rfl, ?_, ?_⟩
  · have h9 := Lib.BuilderAt.put (T := 81) (e := 5) hB HB2.out (bs' := Lib.byteCells l ++ Lib.strCells s) (by have := HO2.out; simpa [Lib.strCells_length, Lib.byteCells_length] using this) (by decide)
    rw [strCells_sb, ← Lib.byteCells_append] at h9
    exact h9
  · exact ((Below.refl B w).grown HG2.out hBw (fun k hk => (HOw.out.lt k hk).1)).setCell (p := ⟨b, 1, none⟩) hB _
theorem beq_bytes {a b : ByteArray} (h : a ≠ b) : (a.toList == b.toList) = false := (Lib.bytes_beq_false_iff a b).2 h
set_option maxHeartbeats 4000000 in
set_option maxRecDepth 100000 in
/-- strings.Replace, of all there is, where there is something -/
theorem replace_some (s old new : ByteArray) (m : Int) (w : World) (hs : s.size ≤ 16777216) (hm : w.cell? ⟨0, 0, none⟩ = some (.int .i64 m)) (h1 : 1 ≤ old.size) (ho : old.size ≤ 2) (hn : new.size ≤ 2) (hn1 : 1 ≤ new.size) (hne : old ≠ new) (hc0 : Lib.countB s old ≠ 0)
    (hC : ∀ w : World, w.cell? ⟨0, 0, none⟩ = some (.int .i64 m) → Calls Tryz.prog 103 #[.string s, .string old] w fun e w' => e = .returned (.int .i64 (Lib.countB s old)) ∧ w' = w) :
    Calls Tryz.prog 70 #[.string s, .string old, .string new, .int .i64 (-1)] w fun e w' => e = .returned (.string ⟨(Lib.replaceK (sb old) (sb new) (Lib.countB s old) (sb s)).toArray⟩) ∧ Below w.heap.size w w' := by
  have hC0 := hC w hm
  have hbeq := beq_bytes hne
  have hmul := Lib.countB_mul_le old h1 s.size s (Nat.le_refl _)
  obtain ⟨cn, hcn⟩ : ∃ cn : Nat, Lib.countB s old = cn := ⟨_, rfl⟩
  have HCn := Lib.hid hcn
  rw [hcn] at hC0 hc0 hmul ⊢
  have hcz : ((cn : Int) == 0) = false := beq_eq_false_iff_ne.2 (by omega)
  clear hcn hC hne
  go_enter Tryz.func70, Tryz.ntmps70
  go_wp2_with fail
  refine hC0.mono ?_
  rintro e w' ⟨rfl, rfl⟩
  clear hC0
  go_wp2_with fail
  have hcs : cn ≤ s.size := by
    have h2 : cn * 1 ≤ cn * old.size := Nat.mul_le_mul_left _ h1
    omega
  obtain ⟨N, hN, hNl⟩ : ∃ N : Nat, wrap64 ((s.size : Int) + wrap64 ((cn : Int) * ((new.size : Int) - (old.size : Int)))) = N ∧ N ≤ 281474976710656 := by
    rcases (show ((new.size : Int) - (old.size : Int)) = -1 ∨ ((new.size : Int) - (old.size : Int)) = 0 ∨ ((new.size : Int) - (old.size : Int)) = 1 by omega) with e | e | e
    · exact ⟨s.size - cn, by rw [e]; unfold wrap64; omega, by omega⟩
    · exact ⟨s.size, by rw [e]; unfold wrap64; omega, by omega⟩
    · exact ⟨s.size + cn, by rw [e]; unfold wrap64; omega, by omega⟩
  obtain ⟨D, hD⟩ : ∃ D, (new.size : Int) - (old.size : Int) = D := ⟨_, rfl⟩
  rw [hD] at hN ⊢
  obtain ⟨M, hM⟩ : ∃ M, wrap64 ((cn : Int) * D) = M := ⟨_, rfl⟩
  rw [hM] at hN ⊢
  rw [hN]
  clear hD hM
  have hgr := Tryz.Builder_Grow_fresh w'.heap.size w'.heap.size N (w'.alloc (.cells #[.pointer none, .slice none 0 0] 81)) (Nat.le_refl _) (heap_alloc_new w' _) (by simp) hNl
  clear hN hNl
  refine hgr.mono ?_
  rintro e w2 ⟨rfl, h2, hb2⟩
  have H2 := Lib.hid (show BldAt w2 w'.heap.size w'.heap.size (.pointer (some ⟨w'.heap.size, 0, none⟩)) [] from h2)
  have HB2 := Lib.hid (((Below.refl w'.heap.size w').alloc (Nat.le_refl _) (.cells #[.pointer none, .slice none 0 0] 81)).trans hb2)
  have hg0 : 0 < w'.heap.size := World.block_lt_of_cell? _ _ hm
  have ho0 : (0 : Int) < (old.size : Int) := by omega
  have hKc : cn ≤ Lib.count ((sb s).drop 0) (sb old) := by rw [List.drop_zero]; exact Nat.le_of_eq HCn.out.symm
  clear hgr h2 hb2
  have hd0 : decide (0 < old.size) = true := decide_eq_true h1
  go_wp2_with fail
  clear hd0
  go_loopw [11, 53] (fun v u wr => ∃ (start i g : Nat) (acc : List UInt8), v = .int .i64 (start : Int) ∧ u = .int .i64 (i : Int) ∧ i + g = cn ∧ start ≤ s.size ∧ Hid (BldAt wr w'.heap.size w'.heap.size (.pointer (some ⟨w'.heap.size, 0, none⟩)) acc) ∧ Hid (Below w'.heap.size w' wr) ∧ Hid (acc ++ Lib.replaceK (sb old) (sb new) g ((sb s).drop start) = Lib.replaceK (sb old) (sb new) cn (sb s)) ∧ Hid (g ≤ Lib.count ((sb s).drop start) (sb old)) ∧ acc.length ≤ 2 * start) (fun _ u _ => cn - (intOf u).toNat)
  case atStart => exact ⟨0, 0, cn, [], rfl, rfl, by omega, Nat.zero_le _, H2, HB2, Lib.hid (by rw [List.drop_zero, List.nil_append]), Lib.hid hKc, by simp⟩
  case round =>
    clear H2 HB2 hKc
    obtain ⟨start, i, g, acc, rfl, rfl, hig, hst, HBd, HB, HE, HC, hal⟩ := hrel
    cases g with
    | zero =>
      have hiK : ¬ ((i : Int) < (cn : Int)) := by omega
      have hws := writeString_any w'.heap.size w'.heap.size acc (s.extract start s.size) wr HBd.out (by simp; omega) HB.out.size
      rw [sb_tail] at hws
      have hfin : acc ++ (sb s).drop start = Lib.replaceK (sb old) (sb new) cn (sb s) := HE.out
      rw [hfin] at hws
      have HBx := Lib.hid HB.out
      clear hfin HE HC HBd HB
      go_wp2_with fail
      refine hws.mono ?_
      rintro e w3 ⟨rfl, h3, hb3⟩
      have hst3 := Tryz.Builder_String_any w'.heap.size w'.heap.size _ w3 (.inr h3) (Nat.le_trans HBx.out.size hb3.size)
      have HB3 := Lib.hid (HBx.out.trans hb3)
      clear hws h3 hb3
      go_wp2_with fail
      refine hst3.mono ?_
      rintro e w4 ⟨rfl, hb4⟩
      have HB4 := Lib.hid (HB3.out.trans hb4)
      clear hst3 hb4
      go_wp2_with fail
      go_ret
      exact ⟨rfl, HB4.out⟩
    | succ g =>
      have hiK : (i : Int) < (cn : Int) := by omega
      have hlenO : (sb old).length = old.size := sb_len old
      obtain ⟨j, hj⟩ := Lib.index_of_count (s := (sb s).drop start) (old := sb old) (by have := HC.out; omega)
      have hroom : j + old.size ≤ s.size - start := by
        have := Lib.index_room ((sb s).drop start) (sb old) (by rw [hj]; omega)
        rw [hj, List.length_drop, sb_len, sb_len] at this
        omega
      have hmr : wr.cell? ⟨0, 0, none⟩ = some (.int .i64 m) := (HB.out.cell (p := ⟨0, 0, none⟩) hg0).trans hm
      have hidx := Tryz.strings_Index (s.extract start s.size) old m wr (by simp; omega) hmr
      rw [show (s.extract start s.size).data.toList = (sb s).drop start from sb_tail s start, show old.data.toList = sb old from rfl, hj] at hidx
      have hrep : (acc ++ ((sb s).drop start).take j ++ sb new) ++ Lib.replaceK (sb old) (sb new) g ((sb s).drop (start + j + old.size)) = Lib.replaceK (sb old) (sb new) cn (sb s) := by
        rw [← HE.out, Lib.replaceK_hit _ _ g _ j hj, List.drop_drop, hlenO]
        simp only [List.append_assoc, Nat.add_assoc]
      have hcnt : g ≤ Lib.count ((sb s).drop (start + j + old.size)) (sb old) := by
        have := Lib.count_hit (s := (sb s).drop start) (sub := sb old) (i := j) (fun e => by rw [e] at hlenO; simp at hlenO; omega) hj
        rw [List.drop_drop, hlenO] at this
        rw [show start + j + old.size = start + (j + old.size) by omega]
        have := HC.out
        omega
      have htl : (((sb s).drop start).take j).length = j := by rw [List.length_take, List.length_drop, sb_len]; omega
      have hmid : sb (s.extract start (start + j)) = ((sb s).drop start).take j := by rw [sb_extract, List.drop_take, Nat.add_sub_cancel_left]
      have hw1 := writeString_any w'.heap.size w'.heap.size acc (s.extract start (start + j)) wr HBd.out (by simp; omega) HB.out.size
      rw [hmid] at hw1
      have hw2 := fun (w2 : World) (h2 : BldAt w2 w'.heap.size w'.heap.size (.pointer (some ⟨w'.heap.size, 0, none⟩)) (acc ++ ((sb s).drop start).take j)) (hz : w'.heap.size ≤ w2.heap.size) => writeString_any w'.heap.size w'.heap.size _ new w2 h2 (by rw [List.length_append, htl]; omega) hz
      have HRep := Lib.hid hrep
      have HCnt := Lib.hid hcnt
      have HTl := Lib.hid htl
      have HBx := Lib.hid HB.out
      have c3 : (start : Int) ≤ (start : Int) + (j : Int) := by omega
      have c4 : (start : Int) + (j : Int) ≤ (s.size : Int) := by omega
      clear hrep hcnt htl hmid hj HE HC HB HBd hlenO hmr
      go_wp2_with (go_at_call 104; (with_reducible refine hidx.mono ?_); rintro e wx ⟨rfl, hwx⟩; rw [hwx])
      clear hidx
      refine hw1.mono ?_
      rintro e w3 ⟨rfl, h3, hb3⟩
      have hw3 := hw2 w3 h3 (Nat.le_trans HBx.out.size hb3.size)
      have HB3 := Lib.hid (HBx.out.trans hb3)
      clear hw1 hw2 h3 hb3
      go_wp2_with fail
      refine hw3.mono ?_
      rintro e w4 ⟨rfl, h4, hb4⟩
      have H4 := Lib.hid h4
      have HB4 := Lib.hid (HB3.out.trans hb4)
      clear hw3 h4 hb4 hwx
      go_wp2_with fail
      go_roundw
      case rel => exact ⟨start + j + old.size, i + 1, g, _, by simp, by simp, by omega, by omega, H4, HB4, HRep, HCnt, by rw [List.length_append, List.length_append, HTl.out, sb_len]; omega⟩
      case measure => simp [intOf]; omega
/-- strings.ReplaceAll: of a doubled byte one, or of one byte two -/
theorem replaceAll_any (s old new : ByteArray) (m : Int) (w : World) (hs : s.size ≤ 16777216) (hm : w.cell? ⟨0, 0, none⟩ = some (.int .i64 m)) (h1 : 1 ≤ old.size) (ho : old.size ≤ 2) (hn : new.size ≤ 2) (hn1 : 1 ≤ new.size) (hne : old ≠ new)
    (hC : ∀ w : World, w.cell? ⟨0, 0, none⟩ = some (.int .i64 m) → Calls Tryz.prog 103 #[.string s, .string old] w fun e w' => e = .returned (.int .i64 (Lib.countB s old)) ∧ w' = w) :
    Calls Tryz.prog 53 #[.string s, .string old, .string new] w fun e w' => e = .returned (.string ⟨(Lib.replaceK (sb old) (sb new) (Lib.countB s old) (sb s)).toArray⟩) ∧ Below w.heap.size w w' := by
  have hr : Calls Tryz.prog 70 #[.string s, .string old, .string new, .int .i64 (-1)] w fun e w' => e = .returned (.string ⟨(Lib.replaceK (sb old) (sb new) (Lib.countB s old) (sb s)).toArray⟩) ∧ Below w.heap.size w w' := by
    by_cases hc : Lib.countB s old = 0
    · have hC0 := hC w hm
      have hbeq := beq_bytes hne
      rw [hc] at hC0 ⊢
      go_enter Tryz.func70, Tryz.ntmps70
      go_wp2_with fail
      refine hC0.mono ?_
      rintro e w' ⟨rfl, rfl⟩
      clear hC0 hC
      go_wp2_with fail
      go_ret
      exact ⟨by rw [show Lib.replaceK (sb old) (sb new) 0 (sb s) = sb s from rfl]; rfl, Below.refl _ _⟩
    · exact replace_some s old new m w hs hm h1 ho hn hn1 hne hc hC
  clear hC hm
  generalize (⟨(Lib.replaceK (sb old) (sb new) (Lib.countB s old) (sb s)).toArray⟩ : ByteArray) = t at *
  go_enter Tryz.func53, Tryz.ntmps53
  go_wp2_with fail
  refine hr.mono ?_
  rintro e w' ⟨rfl, hb⟩
  have HB := Lib.hid hb
  clear hr hb
  go_wp2_with fail
  go_ret
  exact ⟨rfl, HB.out⟩
/-- two ' become one -/
def unq : List UInt8 → List UInt8
  | [] => []
  | [c] => [c]
  | c :: d :: l => if c = 39 ∧ d = 39 then 39 :: unq l else c :: unq (d :: l)
/-- one ' becomes two -/
def dbl : List UInt8 → List UInt8
  | [] => []
  | c :: l => if c = 39 then 39 :: 39 :: dbl l else c :: dbl l
end Go.Proofs.YtmdkneollidkfaaGreatDoor.Fl
