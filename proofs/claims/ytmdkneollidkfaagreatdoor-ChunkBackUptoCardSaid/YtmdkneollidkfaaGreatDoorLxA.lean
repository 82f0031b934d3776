/-
  The lexer: its reader in memory; a byte ahead, bytes as long as they are such, giving up.
-/
import Derived.Test.YtmdkneollidkfaaGreatDoorPMem
import Derived.Test.YtmdkneollidkfaaGreatDoorChecked
namespace Go.Proofs.YtmdkneollidkfaaGreatDoor.Fl
open Go.RowKit

theorem lt_of_blk {w : World} {k : Nat} {o : Obj} (h : w.heap[k]? = some o) : k < w.heap.size := by
  rcases Nat.lt_or_ge k w.heap.size with h1 | h1
  · exact h1
  · rw [Array.getElem?_eq_none h1] at h; cases h
/-- what stands in memory beside one block has not changed -/
structure Ov (R : Nat) (w w' : World) : Prop where
  os : w'.os = w.os
  tape : w'.tape = w.tape
  output : w'.output = w.output
  size : w.heap.size ≤ w'.heap.size
  block : ∀ k, k < w.heap.size → k ≠ R → w'.heap[k]? = w.heap[k]?
theorem Ov.refl (R : Nat) (w : World) : Ov R w w := ⟨rfl, rfl, rfl, Nat.le_refl _, fun _ _ _ => rfl⟩
theorem Ov.trans {R : Nat} {w w1 w2 : World} (h : Ov R w w1) (k : Ov R w1 w2) : Ov R w w2 :=
  ⟨k.os.trans h.os, k.tape.trans h.tape, k.output.trans h.output, Nat.le_trans h.size k.size, fun j hj hn => (k.block j (Nat.lt_of_lt_of_le hj h.size) hn).trans (h.block j hj hn)⟩
theorem Ov.of_below {R : Nat} {w w' : World} (h : Below w.heap.size w w') : Ov R w w' := ⟨h.os, h.tape, h.output, h.size, fun k hk _ => h.block k hk⟩
theorem Ov.set {R : Nat} (w : World) (k : Nat) (v : Value) : Ov R w (w.setCell ⟨R, k, none⟩ v) :=
  ⟨rfl, rfl, rfl, Nat.le_of_eq (by simp [World.setCell]), fun j _ hn => Below.heap_setCell _ _ _ _ hn⟩
theorem Ov.below {R B : Nat} {w w' : World} (h : Ov R w w') (hB : B ≤ w.heap.size) (hR : B ≤ R) : Below B w w' :=
  ⟨h.os, h.tape, h.output, h.size, fun k hk => h.block k (by omega) (by omega)⟩
/-- the reader -/
def RdrAt (w : World) (R : Nat) (s : ByteArray) (p b : Nat) : Prop := w.heap[R]? = some (.cells #[.string s, .int .i64 (p : Int), .int .i64 (b : Int)] 179 (0, 0))
theorem RdrAt.below {w w' : World} {R p b : Nat} {s : ByteArray} (h : RdrAt w R s p b) (hb : Below w.heap.size w w') : RdrAt w' R s p b := (hb.block _ (lt_of_blk h)).trans h
theorem RdrAt.cells {w : World} {R p b : Nat} {s : ByteArray} (h : RdrAt w R s p b) :
    w.cell? ⟨R, 0, none⟩ = some (.string s) ∧ w.cell? ⟨R, 1, none⟩ = some (.int .i64 (p : Int)) ∧ w.cell? ⟨R, 2, none⟩ = some (.int .i64 (b : Int)) ∧ ∀ k, w.frozen? ⟨R, k, none⟩ = false :=
  ⟨cell_of_row _ _ _ _ _ _ h, cell_of_row _ _ _ _ _ _ h, cell_of_row _ _ _ _ _ _ h, fun k => frozen_of_row _ _ _ _ _ h⟩
abbrev sb (s : ByteArray) : List UInt8 := s.data.toList
theorem sb_len (s : ByteArray) : (sb s).length = s.size := by simp [sb]
theorem sb_extract (s : ByteArray) (a b : Nat) : sb (s.extract a b) = ((sb s).take b).drop a := by
  simp [sb, List.extract_eq_drop_take']
theorem sb_tail (s : ByteArray) (a : Nat) : sb (s.extract a s.size) = (sb s).drop a := by
  rw [sb_extract, List.take_of_length_le (by rw [sb_len]; exact Nat.le_refl _)]
/-- the byte at a place; 0 behind the end -/
def lookB (s : ByteArray) (p : Nat) : Nat := if h : p < s.size then s[p].toNat else 0
def blankN (c : Nat) : Bool := c == 32 || c == 9 || c == 10 || c == 13
theorem blankN_any (c : Nat) (w : World) (hc : c < 256) :
    Calls Tryz.prog 196 #[.int .u8 (c : Int)] w fun e w' => e = .returned (.bool (blankN c)) ∧ w = w' := by
  obtain ⟨r, hr⟩ : ∃ r, blankN c = r := ⟨_, rfl⟩
  rw [hr]
  have HR := Lib.hid hr
  clear hr
  go_enter Tryz.func196, Tryz.ntmps196
  go_wp2_with fail
  all_goals
    go_ret
    refine ⟨congrArg (fun x => Ending.returned (Value.bool x)) ?_, rfl⟩
    rw [← HR.out]
    unfold blankN
    refine Bool.eq_iff_iff.2 ?_
    first
    | (simp; done)
    | (simp; omega)
def letterN (c : Nat) : Bool := (decide (97 ≤ c) && decide (c ≤ 122)) || (decide (65 ≤ c) && decide (c ≤ 90))
theorem letterN_any (c : Nat) (w : World) (hc : c < 256) :
    Calls Tryz.prog 138 #[.int .u8 (c : Int)] w fun e w' => e = .returned (.bool (letterN c)) ∧ w = w' := by
  obtain ⟨r, hr⟩ : ∃ r, letterN c = r := ⟨_, rfl⟩
  rw [hr]
  have HR := Lib.hid hr
  clear hr
  go_enter Tryz.func138, Tryz.ntmps138
  go_wp2_with fail
  all_goals
    go_ret
    refine ⟨congrArg (fun x => Ending.returned (Value.bool x)) ?_, rfl⟩
    rw [← HR.out]
    unfold letterN
    refine Bool.eq_iff_iff.2 ?_
    first
    | (simp; done)
    | (simp; omega)
def digitN (c : Nat) : Bool := decide (48 ≤ c) && decide (c ≤ 57)
theorem digitN_any (c : Nat) (w : World) (hc : c < 256) :
    Calls Tryz.prog 169 #[.int .u8 (c : Int)] w fun e w' => e = .returned (.bool (digitN c)) ∧ w = w' := by
  obtain ⟨r, hr⟩ : ∃ r, digitN c = r := ⟨_, rfl⟩
  rw [hr]
  have HR := Lib.hid hr
  clear hr
  go_enter Tryz.func169, Tryz.ntmps169
  go_wp2_with fail
  all_goals
    go_ret
    refine ⟨congrArg (fun x => Ending.returned (Value.bool x)) ?_, rfl⟩
    rw [← HR.out]
    unfold digitN
    refine Bool.eq_iff_iff.2 ?_
    first
    | (simp; done)
    | (simp; omega)
def partN (c : Nat) : Bool := letterN c || digitN c
theorem partN_any (c : Nat) (w : World) (hc : c < 256) :
    Calls Tryz.prog 137 #[.int .u8 (c : Int)] w fun e w' => e = .returned (.bool (partN c)) ∧ w = w' := by
  have h1 := letterN_any c w hc
  have h2 := digitN_any c w hc
  have HR := Lib.hid (show partN c = (letterN c || digitN c) from rfl)
  generalize partN c = r at *
  go_enter Tryz.func137, Tryz.ntmps137
  cases hl : letterN c
  · rw [hl] at h1 HR
    go_wp2_with fail
    refine h1.mono ?_
    rintro e w' ⟨rfl, rfl⟩
    go_wp2_with fail
    refine h2.mono ?_
    rintro e w' ⟨rfl, rfl⟩
    go_wp2_with fail
    go_ret
    exact ⟨by rw [HR.out]; rfl, rfl⟩
  · rw [hl] at h1 HR
    go_wp2_with fail
    refine h1.mono ?_
    rintro e w' ⟨rfl, rfl⟩
    go_wp2_with fail
    go_ret
    exact ⟨by rw [HR.out]; rfl, rfl⟩
set_option maxHeartbeats 1000000 in
theorem lxLook_any (R : Nat) (s : ByteArray) (p b k : Nat) (w : World) (h : RdrAt w R s p b) (hs : s.size ≤ 16777216) (hp : p ≤ s.size) (hk : k ≤ 16) :
    Calls Tryz.prog 174 #[.pointer (some ⟨R, 0, none⟩), .int .i64 (k : Int)] w fun e w' => e = .returned (.int .u8 (lookB s (p + k) : Int)) ∧ Below w.heap.size w w' := by
  obtain ⟨c0, c1, c2, cf⟩ := h.cells
  have hR := lt_of_blk h
  have HBd := Lib.hid (fun nq => (show Below w.heap.size w (w.drewN nq) from _root_.Go.below_drewN (Below.refl _ _) nq))
  obtain ⟨r, hr⟩ : ∃ r, lookB s (p + k) = r := ⟨_, rfl⟩
  rw [hr]
  have HR := Lib.hid hr
  have hqs : p + k ≤ 16777232 := by omega
  have hq : (p : Int) + (k : Int) = ((p + k : Nat) : Int) := by omega
  clear h hr hp hk
  generalize p + k = q at *
  go_enter Tryz.func174, Tryz.ntmps174
  by_cases hlt : q < s.size
  · go_wp2_with fail
    go_quiet (fail)
    go_wp2_with fail
    go_quiet (fail)
    go_wp2_with fail
    go_ret
    exact ⟨by rw [← HR.out]; unfold lookB; rw [dif_pos hlt]; rfl, _root_.Go.below_drewN (HBd.out _) _⟩
  · go_wp2_with fail
    go_quiet (fail)
    go_wp2_with fail
    go_ret
    exact ⟨by rw [← HR.out]; unfold lookB; rw [dif_neg hlt]; rfl, HBd.out _⟩
/-- what a panic of the reader leaves -/
def faultC (e : Int) (b : Nat) : List PanicEntry := [{ v := .iface 175 (.agg #[.int .i64 e, .int .i64 (b : Int)]), recovered := false }]
theorem giveUp_any (R : Nat) (s : ByteArray) (p b : Nat) (n : Int) (w : World) (h : RdrAt w R s p b) :
    Calls Tryz.prog 197 #[.pointer (some ⟨R, 0, none⟩), .int .i64 n] w fun e w' => e = .panicked (faultC n b) ∧ w = w' := by
  obtain ⟨c0, c1, c2, cf⟩ := h.cells
  have hR := lt_of_blk h
  clear h
  go_enter Tryz.func197, Tryz.ntmps197
  go_wp2_with fail
  exact ⟨rfl, rfl, rfl⟩
/-- the place behind bytes that are such -/
def runE (f : Nat → Bool) (s : ByteArray) (p : Nat) : Nat := p + (((sb s).drop p).takeWhile fun c => f c.toNat).length
theorem runE_step {f : Nat → Bool} {s : ByteArray} {p : Nat} (h : p < s.size) (hf : f s[p].toNat = true) : runE f s p = runE f s (p + 1) := by
  unfold runE
  have : (sb s).drop p = s[p] :: (sb s).drop (p + 1) := by
    rw [List.drop_eq_getElem_cons (by rw [sb_len]; exact h)]; rfl
  rw [this, List.takeWhile_cons, if_pos hf, List.length_cons]; omega
theorem runE_stop {f : Nat → Bool} {s : ByteArray} {p : Nat} (h : p < s.size) (hf : f s[p].toNat = false) : runE f s p = p := by
  unfold runE
  have : (sb s).drop p = s[p] :: (sb s).drop (p + 1) := by
    rw [List.drop_eq_getElem_cons (by rw [sb_len]; exact h)]; rfl
  rw [this, List.takeWhile_cons, if_neg (by rw [hf]; simp)]; rfl
theorem runE_end {f : Nat → Bool} {s : ByteArray} : runE f s s.size = s.size := by
  unfold runE
  rw [List.drop_of_length_le (by rw [sb_len]; exact Nat.le_refl _)]; rfl
theorem runE_le {f : Nat → Bool} {s : ByteArray} {p : Nat} (h : p ≤ s.size) : p ≤ runE f s p ∧ runE f s p ≤ s.size := by
  unfold runE
  have h1 := (List.takeWhile_sublist (fun c : UInt8 => f c.toNat) (l := (sb s).drop p)).length_le
  rw [List.length_drop, sb_len] at h1
  omega
/-- where the reader is -/
def atOf (R : Nat) (w : World) : Nat := match w.cell? ⟨R, 1, none⟩ with
  | some (.int _ z) => z.toNat
  | _ => 0
theorem RdrAt.atOf {w : World} {R p b : Nat} {s : ByteArray} (h : RdrAt w R s p b) : Fl.atOf R w = p := by
  unfold Fl.atOf
  rw [h.cells.2.1]; simp
theorem RdrAt.step {w : World} {R p b : Nat} {s : ByteArray} (h : RdrAt w R s p b) (q : Nat) : RdrAt (w.setCell ⟨R, 1, none⟩ (.int .i64 (q : Int))) R s q b :=
  heap_setCell_same w R 1 _ _ (.int .i64 (q : Int)) h
end Go.Proofs.YtmdkneollidkfaaGreatDoor.Fl
