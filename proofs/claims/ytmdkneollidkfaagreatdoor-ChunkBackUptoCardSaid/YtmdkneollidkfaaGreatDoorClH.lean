/-
  The program's writer: a builder within a struct; what is put into it.
-/
import Derived.Test.YtmdkneollidkfaaGreatDoorClE
import Derived.Shelf.Strings.OnBuilder
import Derived.Test.YtmdkneollidkfaaGreatDoorClF
import Derived.Deep.DeepCutAuto
namespace Go.Proofs.YtmdkneollidkfaaGreatDoor.Fl
open Go.RowKit Go.Shelf

/-- a writer of a block of the call's own that holds these bytes -/
abbrev WrAt (w : World) (B b : Nat) (p : Value) (l : List UInt8) : Prop := Lib.BuilderAt 83 5 B b p (Lib.byteCells l) w
def WrIs (w : World) (B b : Nat) (l : List UInt8) : Prop := Lib.IsBuilder 83 5 B b (Lib.byteCells l) w
theorem WrIs.at_ {w : World} {B b : Nat} {l : List UInt8} (h : WrIs w B b l) : ∃ p, WrAt w B b p l := by
  rcases h with h | h
  · exact ⟨_, h⟩
  · exact ⟨_, h⟩
theorem WrAt.below {w w' : World} {B b : Nat} {p : Value} {l : List UInt8} (h : WrAt w B b p l) (hb : Below w.heap.size w w') : WrAt w' B b p l := by
  obtain ⟨hB, v, hbk, hown, hne⟩ := h
  exact ⟨hB, v, (hb.block b (lt_of_blk hbk)).trans hbk, ⟨hown.1, hown.2.elim .inl fun ⟨g, cap, cur, hv, hbg, hg, r⟩ => .inr ⟨g, cap, cur, hv, hbg, (hb.block g (lt_of_blk hg)).trans hg, r⟩⟩, hne⟩
theorem WrIs.below {w w' : World} {B b : Nat} {l : List UInt8} (h : WrIs w B b l) (hb : Below w.heap.size w w') : WrIs w' B b l := by
  rcases h with h | h
  · exact .inl (WrAt.below h hb)
  · exact .inr (WrAt.below h hb)
/-- what is neither a writer nor a row of bytes is as it was -/
def KpW (w w' : World) : Prop := w.heap.size ≤ w'.heap.size ∧ ∀ (k : Nat) (cs : Array Value) (T : TypeId) (fr : Nat × Nat), w.heap[k]? = some (Obj.cells cs T fr) → T ≠ 83 → T ≠ 5 → w'.heap[k]? = some (Obj.cells cs T fr)
theorem KpW.refl (w : World) : KpW w w := ⟨Nat.le_refl _, fun _ _ _ _ h _ _ => h⟩
theorem KpW.trans {w1 w2 w3 : World} (h : KpW w1 w2) (h' : KpW w2 w3) : KpW w1 w3 := ⟨Nat.le_trans h.1 h'.1, fun k cs T fr hk h1 h2 => h'.2 k cs T fr (h.2 k cs T fr hk h1 h2) h1 h2⟩
theorem KpW.cell {w : World} {b : Nat} {cs : Array Value} {fr : Nat × Nat} (hb : w.heap[b]? = some (.cells cs 83 fr)) (k : Nat) (x : Value) : KpW w (w.setCell ⟨b, k, none⟩ x) := by
  refine ⟨((Below.refl b w).setCell (p := ⟨b, k, none⟩) (Nat.le_refl _) x).size, fun j cs' T fr' hj h1 _ => ?_⟩
  have hne : j ≠ b := fun e => by
    subst e
    rw [hb] at hj
    injection hj with hj
    injection hj with _ hj _
    exact h1 hj.symm
  exact (Below.heap_setCell w ⟨b, k, none⟩ x j hne).trans hj
theorem KpW.of {w w' : World} (h : Below w.heap.size w w') : KpW w w' := ⟨h.size, fun k cs T fr hk _ _ => (h.block k (lt_of_blk hk)).trans hk⟩
set_option maxRecDepth 100000 in
theorem lenW_any (B b : Nat) (l : List UInt8) (w : World) (h : WrIs w B b l) :
    Calls Tryz.prog 33 #[.pointer (some ⟨b, 0, none⟩)] w fun e w' => e = .returned (.int .i64 (l.length : Int)) ∧ w = w' := by
  obtain ⟨p, hB, v, hbk, hown, hne⟩ := h.at_
  rw [Lib.byteCells_length] at hown
  obtain ⟨ao, cap, rfl⟩ : ∃ ao cap, v = .slice ao l.length cap := by
    rcases hown.2 with ⟨hv, h0⟩ | ⟨g, cap, cur, hv, _⟩
    · exact ⟨none, 0, by rw [hv, h0]⟩
    · exact ⟨_, _, hv⟩
  have c1 : w.cell? ⟨b, 1, none⟩ = some (.slice ao l.length cap) := by rw [Lib.cell_of_heap hbk]; rfl
  clear hown hbk hne
  go_enter Tryz.func33, Tryz.ntmps33
  go_wp2_with fail
  go_ret
  exact ⟨rfl, rfl⟩
set_option maxRecDepth 100000 in
set_option maxHeartbeats 1000000 in
theorem checkW_fresh (b : Nat) (w : World) (h0 : w.cell? ⟨b, 0, none⟩ = some (.pointer none)) (hsh : w.shape? b = some (83, 2)) (hfz : w.frozen? ⟨b, 0, none⟩ = false) :
    Calls Tryz.prog 98 #[.pointer (some ⟨b, 0, none⟩)] w fun e w' => e = .returned (.tuple #[]) ∧ w' = w.setCell ⟨b, 0, none⟩ (.pointer (some ⟨b, 0, none⟩)) := by
  obtain ⟨j, hj, hjs⟩ := Option.map_eq_some_iff.1 (show (Tryz.prog.info? 81).map (·.size) = some 2 by kernel_rfl)
  have hl : liesAt Tryz.prog Tryz.prog.depth 83 (2 / Tryz.prog.cellsOf 83) 0 81 1 = true := by kernel_rfl
  go_enter Tryz.func98, Tryz.ntmps98
  go_wp2_with fail
  rw [Lib.run_to_unsafe w ⟨b, 0, none⟩ Tryz.underlying78 Tryz.underlying168 hj (by rw [hjs]; decide) hsh (Nat.zero_lt_succ 1)]
  simp only [Result.andThen]
  rw [Oper.upon_value]
  go_wp2_with fail
  rw [run_callFunc_extern Tryz.func125 (by kernel_rfl) (by kernel_rfl) (by kernel_rfl) (e := Extern.AbiNoEscape.same) (by kernel_rfl)]
  rw [Lib.run_noEscape]
  simp only [Result.andThen]
  rw [Oper.upon_value]
  go_wp2_with fail
  rw [Lib.run_from_unsafe w ⟨b, 0, none⟩ Tryz.underlying168 Tryz.underlying78 hj hsh hl]
  simp only [Result.andThen]
  rw [Oper.upon_value]
  go_wp2_with fail
  try (rw [Lib.run_neq_ptr_same _ _ Tryz.underlying78 hj]; go_wp2_with fail)
  go_end0
  exact ⟨rfl, rfl⟩
theorem checkW_any (B b : Nat) (l : List UInt8) (w : World) (h : WrIs w B b l) :
    Calls Tryz.prog 98 #[.pointer (some ⟨b, 0, none⟩)] w fun e w' => e = .returned (.tuple #[]) ∧ WrAt w' B b (.pointer (some ⟨b, 0, none⟩)) l ∧ Below B w w' ∧ KpW w w' := by
  rcases h with h | h
  · refine (checkW_fresh b w h.cell0 h.shape h.frozen0).mono ?_
    rintro e w' ⟨rfl, rfl⟩
    refine ⟨rfl, h.used _, (Below.refl B w).setCell (p := ⟨b, 0, none⟩) h.1 _, ?_⟩
    obtain ⟨_, v, hbk, _⟩ := h
    exact KpW.cell hbk 0 _
  · refine (copyCheck_used b w h.cell0).mono ?_
    rintro e w' ⟨rfl, rfl⟩
    exact ⟨rfl, h, Below.refl B _, KpW.refl _⟩
set_option maxRecDepth 100000 in
set_option maxHeartbeats 1000000 in
theorem writeW_any (B b : Nat) (l : List UInt8) (s : ByteArray) (w : World) (h : WrIs w B b l) (hlen : l.length + s.size ≤ 140737488355328) (hBw : B ≤ w.heap.size) :
    Calls Tryz.prog 65 #[.pointer (some ⟨b, 0, none⟩), .string s] w fun e w' => e = .returned (.tuple #[.int .i64 s.size, .nilIface]) ∧ WrIs w' B b (l ++ sb s) ∧ Below B w w' ∧ KpW w w' := by
  obtain ⟨i0, hi, hz0, hz1, hz2⟩ := info_parts u8infoL
  have hcc := checkW_any B b l w h
  clear h
  go_enter Tryz.func65, Tryz.ntmps65
  go_wp2_with fail
  refine hcc.mono ?_
  rintro e w1 ⟨rfl, h, hb1, hk1⟩
  clear hcc
  have HB1 := Lib.hid hb1
  have HK1 := Lib.hid hk1
  have hBw1 : B ≤ w1.heap.size := Nat.le_trans hBw hb1.size
  obtain ⟨hB, v, hbk, hown, hne⟩ := h
  have c1 : w1.cell? ⟨b, 1, none⟩ = some v := by rw [Lib.cell_of_heap hbk]; rfl
  have hlb : (Lib.byteCells l).length = l.length := Lib.byteCells_length l
  rw [hlb] at hown
  have HOw := Lib.hid hown
  have HBk := Lib.hid hbk
  have HNe := Lib.hid hne
  clear hown hbk hne hlb hb1 hk1
  go_wp2_with (at_builtin; refine Lib.wpList_append_own_string _ rfl _ _ 79 9 rfl B 5 i0 Tryz.underlying79 Tryz.underlying9 hi hz0 hz1 hz2 _ _ _ rfl HOw.out s rfl ?c3 ?c4 ?c5 ?_)
  case c3 => unfold maxLen; omega
  case c4 => omega
  case c5 => exact hBw1
  intro v' w2 hown' hgrow _
  have hlt := lt_of_blk HBk.out
  have hb2 : w2.heap[b]? = some (.cells #[.pointer (some ⟨b, 0, none⟩), v] 83 (0, 0)) := (hgrow.block b hlt (fun e => HNe.out e.symm)).trans HBk.out
  have d0 : w2.cell? ⟨b, 0, none⟩ = some (.pointer (some ⟨b, 0, none⟩)) := by rw [Lib.cell_of_heap hb2]; rfl
  have d1 : w2.cell? ⟨b, 1, none⟩ = some v := by rw [Lib.cell_of_heap hb2]; rfl
  have f1 : w2.frozen? ⟨b, 1, none⟩ = false := Lib.frozen_of_heap hb2 1
  have hlt2 := lt_of_blk hb2
  obtain ⟨ao, n', cap, rfl⟩ : ∃ ao n' cap, v' = .slice ao n' cap := by
    rcases hown'.2 with ⟨hv, _⟩ | ⟨g, cap, cur, hv, _⟩
    · exact ⟨_, _, _, hv⟩
    · exact ⟨_, _, _, hv⟩
  have HO2 := Lib.hid hown'
  have HG2 := Lib.hid hgrow
  have HB2 := Lib.hid hb2
  clear hown' hgrow hb2
  go_wp2_with fail
  go_ret2
  refine ⟨rfl, .inr ?_, ?_, HK1.out.trans ?_⟩
  · have h9 := Lib.BuilderAt.put (T := 83) (e := 5) hB HB2.out (bs' := Lib.byteCells l ++ Lib.strCells s) (by have := HO2.out; simpa [Lib.strCells_length, Lib.byteCells_length] using this) (by decide)
    rw [strCells_sb, ← Lib.byteCells_append] at h9
    exact h9
  · exact HB1.out.trans (((Below.refl B w1).grown HG2.out hBw1 (fun k hk => (HOw.out.lt k hk).1)).setCell (p := ⟨b, 1, none⟩) hB _)
  · refine KpW.trans (w2 := w2) ⟨((Below.refl B w1).grown HG2.out hBw1 (fun k hk => (HOw.out.lt k hk).1)).size, fun k cs T fr hk h1 h2 => (HG2.out.block k (lt_of_blk hk) (own_ne HOw.out hk h2).symm).trans hk⟩ (KpW.cell HB2.out 1 _)
end Go.Proofs.YtmdkneollidkfaaGreatDoor.Fl

/-
  The program's Write: its parts.
-/
namespace Go.Proofs.YtmdkneollidkfaaGreatDoor.Fl
open Go.RowKit Go.Shelf

/-- what is put behind: till it is too great -/
def putP (acc : List UInt8) : List (List UInt8) → List UInt8
  | [] => acc
  | s :: l => putP (if acc.length ≤ 65536 then acc ++ s else acc) l
theorem putP_app : ∀ (l m : List (List UInt8)) (acc : List UInt8), putP acc (l ++ m) = putP (putP acc l) m
  | [], _, _ => rfl
  | s :: l, m, acc => by rw [List.cons_append, putP, putP, putP_app l m]
theorem putP_small : ∀ (l : List (List UInt8)) (acc : List UInt8), (acc ++ l.flatten).length ≤ 65536 → putP acc l = acc ++ l.flatten
  | [], acc, _ => by simp [putP]
  | s :: l, acc, h => by
    simp only [List.flatten_cons, List.length_append] at h
    rw [putP, if_pos (by omega), putP_small l _ (by simp only [List.length_append]; omega)]
    simp
theorem putP_ge : ∀ (l : List (List UInt8)) (acc : List UInt8), 65536 < acc.length → putP acc l = acc
  | [], _, _ => rfl
  | s :: l, acc, h => by rw [putP, if_neg (by omega), putP_ge l acc h]
theorem putP_great : ∀ (l : List (List UInt8)) (acc : List UInt8), 65536 < (acc ++ l.flatten).length → 65536 < (putP acc l).length
  | [], acc, h => by simpa [putP] using h
  | s :: l, acc, h => by
    rcases Nat.lt_or_ge 65536 acc.length with h1 | h1
    · rw [putP_ge _ _ h1]; exact h1
    · rw [putP, if_pos h1]
      exact putP_great l _ (by simpa [List.append_assoc] using h)
theorem putP_le (M : Nat) : ∀ (l : List (List UInt8)) (acc : List UInt8), acc.length ≤ 65536 + M → (∀ s ∈ l, s.length ≤ M) → (putP acc l).length ≤ 65536 + M
  | [], _, h, _ => h
  | s :: l, acc, h, hs => by
    rw [putP]
    refine putP_le M l _ ?_ (fun x hx => hs x (by simp [hx]))
    split
    · have := hs s (by simp)
      rw [List.length_append]; omega
    · exact h
set_option maxRecDepth 100000 in
set_option maxHeartbeats 1000000 in
theorem put_any (B b g : Nat) (acc : List UInt8) (ps : List (List UInt8)) (w : World) (h : WrIs w B b acc) (hg : w.heap[g]? = some (.cells (cs_ ps).toArray 9 (0, 0))) (hl : ps.length ≤ 1000) (ha : acc.length ≤ 33554432) (hs : ∀ x ∈ ps, x.length ≤ 16777216) (hB : B ≤ w.heap.size) :
    Calls Tryz.prog 49 #[.pointer (some ⟨b, 0, none⟩), .slice (some ⟨g, 0, none⟩) ps.length ps.length] w fun e w' => e = .returned (.tuple #[]) ∧ WrIs w' B b (putP acc ps) ∧ Below B w w' ∧ KpW w w' := by
  have HG := Lib.hid hg
  have HS := Lib.hid hs
  have HW := Lib.hid h
  clear hg hs h
  go_enter Tryz.func49, Tryz.ntmps49
  go_wp2_with fail
  go_loopw [8] (fun v wr => ∃ i : Nat, i ≤ ps.length ∧ v = .int .i64 (i : Int) ∧ Hid (∃ cur, WrIs wr B b cur ∧ cur.length ≤ acc.length + i * 16777216 ∧ putP cur (ps.drop i) = putP acc ps) ∧ Hid (Below B w wr ∧ KpW w wr)) (fun v _ => ps.length - (intOf v).toNat)
  case atStart => exact ⟨0, Nat.zero_le _, rfl, Lib.hid ⟨acc, HW.out, by omega, rfl⟩, Lib.hid ⟨Below.refl _ _, KpW.refl _⟩⟩
  case round =>
    obtain ⟨i, hi, rfl, HT, HB⟩ := hrel
    obtain ⟨cur, hcur, hcl, hput⟩ := HT.out
    clear HT
    by_cases hlt : i < ps.length
    case neg =>
      have hq : ¬ ((i : Int) < (ps.length : Int)) := by omega
      rw [List.drop_of_length_le (by omega)] at hput
      have HP := Lib.hid hput
      have HC := Lib.hid hcur
      clear hput hcur hcl
      go_wp2_with fail
      go_end0
      exact ⟨rfl, by rw [← HP.out]; exact HC.out, HB.out.1, HB.out.2⟩
    have hq : (i : Int) < (ps.length : Int) := by omega
    have hgr := HB.out.2.2 g _ _ _ HG.out (by decide) (by decide)
    have hcell : wr.cell? ⟨g, i, none⟩ = some (.string (mkB ps[i])) := by
      rw [Lib.cell_of_heap hgr]
      simp [cs_, hlt]
    have hgl := lt_of_blk hgr
    have hlen := lenW_any B b cur wr hcur
    have hBw : B ≤ wr.heap.size := Nat.le_trans hB HB.out.2.1
    have hsz := HS.out ps[i] (List.getElem_mem hlt)
    have hwr := writeW_any B b cur (mkB ps[i]) wr hcur (by rw [mkL_size]; omega) hBw
    rw [List.drop_eq_getElem_cons hlt, putP] at hput
    have HP := Lib.hid hput
    have HC := Lib.hid hcur
    have HCL := Lib.hid hcl
    clear hput hcur hcl hgr
    by_cases hle : cur.length ≤ 65536
    · have hle2 : (cur.length : Int) ≤ 65536 := by omega
      go_wp2_with (first | (go_at_call 33; refine hlen.mono ?_; rintro e w1 ⟨rfl, rfl⟩; clear hlen) | (go_at_call 65; refine hwr.mono ?_; rintro e w2 ⟨rfl, hw2, hb2, hk2⟩; clear hwr))
      have HW2 := Lib.hid (show ∃ cur', WrIs w2 B b cur' ∧ cur'.length ≤ acc.length + (i + 1) * 16777216 ∧ putP cur' (ps.drop (i + 1)) = putP acc ps from ⟨cur ++ sb (mkB ps[i]), hw2, by rw [List.length_append, sb_mk]; have := HCL.out; omega, by rw [sb_mk]; have := HP.out; rwa [if_pos hle] at this⟩)
      have HB2 := Lib.hid (And.intro (HB.out.1.trans hb2) (HB.out.2.trans hk2))
      clear hw2 hb2 hk2
      go_roundw
      case rel => exact ⟨i + 1, by omega, rfl, HW2, HB2⟩
      case measure => simp [intOf]; omega
    · have hle2 : ¬ (cur.length : Int) ≤ 65536 := by omega
      go_wp2_with (first | (go_at_call 33; refine hlen.mono ?_; rintro e w1 ⟨rfl, rfl⟩; clear hlen))
      have HW2 := Lib.hid (show ∃ cur', WrIs wr B b cur' ∧ cur'.length ≤ acc.length + (i + 1) * 16777216 ∧ putP cur' (ps.drop (i + 1)) = putP acc ps from ⟨cur, HC.out, Nat.le_trans HCL.out (Nat.add_le_add_left (Nat.mul_le_mul_right _ (Nat.le_succ i)) _), by have := HP.out; rwa [if_neg hle] at this⟩)
      go_roundw
      case rel => exact ⟨i + 1, by omega, rfl, HW2, HB⟩
      case measure => simp [intOf]; omega
theorem cs_arr (ps : List (List UInt8)) : (cs_ ps).toArray = (ps.map fun x => Value.string (mkB x)).toArray := rfl
theorem put_row (B b : Nat) (acc : List UInt8) (ps : List (List UInt8)) (w : World) (h : WrIs w B b acc) (hl : ps.length ≤ 1000) (ha : acc.length ≤ 16842752) (hs : ∀ x ∈ ps, x.length ≤ 16777216) (hB : B ≤ w.heap.size) :
    Calls Tryz.prog 49 #[.pointer (some ⟨b, 0, none⟩), .slice (some ⟨w.heap.size, 0, none⟩) ps.length ps.length] (w.alloc (.cells (cs_ ps).toArray 9)) fun e w' => e = .returned (.tuple #[]) ∧ WrIs w' B b (putP acc ps) ∧ (putP acc ps).length ≤ 16842752 ∧ Below B w w' ∧ KpW w w' := by
  have hb : Below w.heap.size w (w.alloc (.cells (cs_ ps).toArray 9)) := (Below.refl _ _).alloc (Nat.le_refl _) _
  refine (put_any B b w.heap.size acc ps _ (h.below hb) (heap_alloc_new w _) hl (by omega) hs (Nat.le_trans hB hb.size)).mono ?_
  rintro e w' ⟨rfl, h1, h2, h3⟩
  exact ⟨rfl, h1, putP_le 16777216 ps acc ha hs, (hb.mono hB).trans h2, (KpW.of hb).trans h3⟩
abbrev clsW6 : List UInt8 := [32, 99, 108, 97, 115, 115]
abbrev methW : List UInt8 := [32, 109, 101, 116, 104, 111, 100, 115, 33, 10]
def hdP (nm : List UInt8) (m : Bool) : List (List UInt8) := [nm] ++ ((if m = true then [clsW6] else []) ++ [methW])
theorem hdP_flat (nm : List UInt8) (m : Bool) : (hdP nm m).flatten = hdW nm m := by
  cases m <;> simp [hdP, hdW, hdT]
set_option maxRecDepth 100000 in
set_option maxHeartbeats 1000000 in
theorem header_any (B b : Nat) (acc nm tx : List UInt8) (m : Bool) (at_ : Int) (w : World) (h : WrIs w B b acc) (ha : acc.length ≤ 16842752) (hn : nm.length ≤ 16777216) (hB : B ≤ w.heap.size) :
    Calls Tryz.prog 52 #[.pointer (some ⟨b, 0, none⟩), .agg #[.string (mkB nm), .bool m, .string (mkB tx), .int .i64 at_]] w fun e w' => e = .returned (.tuple #[]) ∧ WrIs w' B b (putP acc (hdP nm m)) ∧ (putP acc (hdP nm m)).length ≤ 16842752 ∧ Below B w w' ∧ KpW w w' := by
  have hp : Hid (∀ (acc : List UInt8) (ps : List (List UInt8)) (w : World), WrIs w B b acc → ps.length ≤ 1000 → acc.length ≤ 16842752 → (∀ x ∈ ps, x.length ≤ 16777216) → B ≤ w.heap.size → Calls Tryz.prog 49 #[.pointer (some ⟨b, 0, none⟩), .slice (some ⟨w.heap.size, 0, none⟩) ps.length ps.length] (w.alloc (.cells (cs_ ps).toArray 9)) fun e w' => e = .returned (.tuple #[]) ∧ WrIs w' B b (putP acc ps) ∧ (putP acc ps).length ≤ 16842752 ∧ Below B w w' ∧ KpW w w') := Lib.hid (fun acc ps w => put_row B b acc ps w)
  have hw0 := heap_alloc_new w (.cells #[.string (mkB nm), .bool m, .string (mkB tx), .int .i64 at_] 73)
  have hb0 : Below w.heap.size w (w.alloc (.cells #[.string (mkB nm), .bool m, .string (mkB tx), .int .i64 at_] 73)) := (Below.refl _ _).alloc (Nat.le_refl _) _
  have HH := Lib.hid (And.intro (h.below hb0) (And.intro (hb0.mono hB) (And.intro (KpW.of hb0) (Nat.le_trans hB hb0.size))))
  clear h
  go_enter Tryz.func52, Tryz.ntmps52
  go_upto_region 1 with fail
  generalize w.alloc (.cells #[.string (mkB nm), .bool m, .string (mkB tx), .int .i64 at_] 73) = w1 at *
  obtain ⟨R, hR⟩ : ∃ R, w.heap.size = R := ⟨_, rfl⟩
  rw [hR] at hw0
  try simp only [hR]
  have HW1 := Lib.hid hw0
  clear hw0 hb0 hR
  have f := cells4L HW1.out
  have l := lt_of_blk HW1.out
  have hq := hp.out acc [nm] w1 HH.out.1 (by simp) ha (by simpa using hn) HH.out.2.2.2
  cases m
  · have hfl : hdP nm false = [nm] ++ [methW] := rfl
    go_upto_region 4 with (go_at_call 49; refine hq.mono ?_; rintro e w2 ⟨rfl, h2, hl2, hb2, hk2⟩; clear hq
                           have hbk2 := hk2.2 _ _ _ _ HW1.out (by decide) (by decide)
                           have f2 := cells4L hbk2
                           have l2 := lt_of_blk hbk2)
    have hq := hp.out (putP acc [nm]) [methW] w2 h2 (by simp) hl2 (by simp) (Nat.le_trans HH.out.2.2.2 hb2.size)
    have H2 := Lib.hid (And.intro (HH.out.2.1.trans hb2) (HH.out.2.2.1.trans hk2))
    clear f l f2 l2 h2 hb2 hk2 hl2 hbk2
    go_wp2_with (go_at_call 49; refine hq.mono ?_; rintro e w3 ⟨rfl, h3, hl3, hb3, hk3⟩; clear hq)
    go_end0
    rw [hfl, putP_app]
    exact ⟨rfl, h3, hl3, H2.out.1.trans hb3, H2.out.2.trans hk3⟩
  · have hfl : hdP nm true = [nm] ++ ([clsW6] ++ [methW]) := rfl
    go_upto_region 3 with (go_at_call 49; refine hq.mono ?_; rintro e w2 ⟨rfl, h2, hl2, hb2, hk2⟩; clear hq
                           have hbk2 := hk2.2 _ _ _ _ HW1.out (by decide) (by decide)
                           have f2 := cells4L hbk2
                           have l2 := lt_of_blk hbk2)
    have hq := hp.out (putP acc [nm]) [clsW6] w2 h2 (by simp) hl2 (by simp) (Nat.le_trans HH.out.2.2.2 hb2.size)
    have H2 := Lib.hid (And.intro (HH.out.2.1.trans hb2) (And.intro (HH.out.2.2.1.trans hk2) (Nat.le_trans HH.out.2.2.2 hb2.size)))
    clear f l f2 l2 h2 hb2 hk2 hl2 hbk2
    go_upto_region 4 with (go_at_call 49; refine hq.mono ?_; rintro e w3 ⟨rfl, h3, hl3, hb3, hk3⟩; clear hq)
    have hq := hp.out (putP (putP acc [nm]) [clsW6]) [methW] w3 h3 (by simp) hl3 (by simp) (Nat.le_trans H2.out.2.2 hb3.size)
    have H3 := Lib.hid (And.intro (H2.out.1.trans hb3) (H2.out.2.1.trans hk3))
    clear h3 hb3 hk3 hl3
    go_wp2_with (go_at_call 49; refine hq.mono ?_; rintro e w4 ⟨rfl, h4, hl4, hb4, hk4⟩; clear hq)
    go_end0
    rw [hfl, putP_app, putP_app]
    exact ⟨rfl, h4, hl4, H3.out.1.trans hb4, H3.out.2.trans hk4⟩
theorem fld_join : ∀ l : List (List UInt8), Lib.join l [32] = fldW l
  | [] => rfl
  | [x] => by simp [Lib.join, List.intercalate, fldW]
  | x :: y :: l => by
    have h := fld_join (y :: l)
    simp only [Lib.join, List.intercalate, fldW] at h ⊢
    rw [← h]
    cases l <;> simp [List.intersperse]
set_option maxRecDepth 100000 in
theorem join_none (A : Option Addr) (c : Nat) (w : World) : Calls Tryz.prog 69 #[.slice A 0 c, .string ⟨#[32]⟩] w fun e w' => e = .returned (.string ⟨#[]⟩) ∧ w = w' := by
  go_enter Tryz.func69, Tryz.ntmps69
  go_wp2_with fail
  go_ret
  exact ⟨rfl, rfl⟩
theorem joinF_any (ts : List (List UInt8)) (A : Option Addr) (c B : Nat) (w : World) (hr : Rd w B A (cs_ ts)) (hB : B ≤ w.heap.size) (hc : ts.length ≤ c) (hl : ts.length ≤ 100000000) (hf : (fldW ts).length ≤ 33554432) :
    Calls Tryz.prog 69 #[.slice A ts.length c, .string ⟨#[32]⟩] w fun e w' => e = .returned (.string (mkB (fldW ts))) ∧ Below w.heap.size w w' := by
  rcases hr with h | ⟨b, o, rfl, hb, hcell⟩
  · have : ts = [] := by
      cases ts with
      | nil => rfl
      | cons x l => simp [cs_] at h
    subst this
    refine (join_none A c w).mono ?_
    rintro e w' ⟨rfl, rfl⟩
    exact ⟨rfl, Below.refl _ _⟩
  · have hmap : (ts.map mkB).map (fun x : ByteArray => x.data.toList) = ts := by
      rw [List.map_map]
      have : (fun x : ByteArray => x.data.toList) ∘ mkB = id := by funext x; simp
      rw [this, List.map_id]
    have h := Tryz.strings_Join b o c (ts.map mkB) ⟨#[32]⟩ w (fun j x hx => by
      refine hcell j _ ?_
      rw [List.getElem?_map] at hx
      obtain ⟨y, hy, rfl⟩ := Option.map_eq_some_iff.1 hx
      simp [cs_, hy]) (Nat.lt_of_lt_of_le hb hB) (by rw [List.length_map]; omega) (by rw [List.length_map]; exact hc) (by
        rw [hmap]
        show (Lib.join ts [32]).length ≤ _
        rw [fld_join]; omega)
    rw [hmap, show (⟨#[32]⟩ : ByteArray).data.toList = [32] from rfl, fld_join, List.length_map] at h
    exact h
set_option maxRecDepth 100000 in
theorem fieldsOf_any (nm sp : List UInt8) (ts : List (List UInt8)) (at_ : Int) (A : Option Addr) (c B : Nat) (w : World) (hr : Rd w B A (cs_ ts)) (hB : B ≤ w.heap.size) (hc : ts.length ≤ c) (hl : ts.length ≤ 100000000) (hf : (fldW ts).length ≤ 33554432) :
    Calls Tryz.prog 50 #[.agg #[.string (mkB nm), .string (mkB sp), .slice A ts.length c, .int .i64 at_]] w fun e w' => e = .returned (.string (mkB (fldW ts))) ∧ Below w.heap.size w w' := by
  have hw0 := heap_alloc_new w (.cells #[.string (mkB nm), .string (mkB sp), .slice A ts.length c, .int .i64 at_] 87)
  have hb0 : Below w.heap.size w (w.alloc (.cells #[.string (mkB nm), .string (mkB sp), .slice A ts.length c, .int .i64 at_] 87)) := (Below.refl _ _).alloc (Nat.le_refl _) _
  go_enter Tryz.func50, Tryz.ntmps50
  go_upto_region 1 with fail
  have HB := Lib.hid hb0
  have hj := joinF_any ts A c B _ (hr.below hb0 hB) (Nat.le_trans hB hb0.size) hc hl hf
  generalize w.alloc (.cells #[.string (mkB nm), .string (mkB sp), .slice A ts.length c, .int .i64 at_] 87) = w1 at *
  obtain ⟨R, hR⟩ : ∃ R, w.heap.size = R := ⟨_, rfl⟩
  rw [hR] at hw0
  try simp only [hR]
  have f := cells4L hw0
  have l := lt_of_blk hw0
  clear hw0 hb0 hr
  go_wp2_with (go_at_call 69; refine hj.mono ?_; rintro e w2 ⟨rfl, hb2⟩; clear hj)
  go_ret
  exact ⟨rfl, HB.out.trans (hb2.mono HB.out.size)⟩
set_option maxRecDepth 100000 in
theorem isReadable_any (nm sp : List UInt8) (ts : List (List UInt8)) (at_ : Int) (A : Option Addr) (c B : Nat) (w : World) (hr : Rd w B A (cs_ ts)) (hB : B ≤ w.heap.size) (hc : ts.length ≤ c) (hl : ts.length ≤ 100000000) (hf : (fldW ts).length ≤ 33554432) :
    Calls Tryz.prog 38 #[.agg #[.string (mkB nm), .string (mkB sp), .slice A ts.length c, .int .i64 at_]] w fun e w' => e = .returned (.bool (decide ((fldW ts).length ≤ 4096))) ∧ Below w.heap.size w w' := by
  have hw0 := heap_alloc_new w (.cells #[.string (mkB nm), .string (mkB sp), .slice A ts.length c, .int .i64 at_] 87)
  have hb0 : Below w.heap.size w (w.alloc (.cells #[.string (mkB nm), .string (mkB sp), .slice A ts.length c, .int .i64 at_] 87)) := (Below.refl _ _).alloc (Nat.le_refl _) _
  go_enter Tryz.func38, Tryz.ntmps38
  go_upto_region 1 with fail
  have HB := Lib.hid hb0
  have hj := fieldsOf_any nm sp ts at_ A c B _ (hr.below hb0 hB) (Nat.le_trans hB hb0.size) hc hl hf
  generalize w.alloc (.cells #[.string (mkB nm), .string (mkB sp), .slice A ts.length c, .int .i64 at_] 87) = w1 at *
  obtain ⟨R, hR⟩ : ∃ R, w.heap.size = R := ⟨_, rfl⟩
  rw [hR] at hw0
  try simp only [hR]
  have f := cells4L hw0
  have l := lt_of_blk hw0
  clear hw0 hb0 hr
  go_wp2_with (go_at_call 50; refine hj.mono ?_; rintro e w2 ⟨rfl, hb2⟩; clear hj)
  go_ret
  exact ⟨congrArg (fun b => Ending.returned (Value.bool b)) (decide_eq_decide.2 (by omega)), HB.out.trans (hb2.mono HB.out.size)⟩
end Go.Proofs.YtmdkneollidkfaaGreatDoor.Fl

/-
  The program's Write: what may be written.
-/
namespace Go.Proofs.YtmdkneollidkfaaGreatDoor.Fl
open Go.RowKit Go.Shelf

def likeR (x y : Src) : Bool := x.1 == y.1 && x.2.1 == y.2.1
set_option maxRecDepth 100000 in
theorem isAlike_any (c1 t1 c2 t2 : List UInt8) (m1 m2 : Bool) (a1 a2 : Int) (w : World) :
    Calls Tryz.prog 51 #[.agg #[.string (mkB c1), .bool m1, .string (mkB t1), .int .i64 a1], .agg #[.string (mkB c2), .bool m2, .string (mkB t2), .int .i64 a2]] w fun e w' => e = .returned (.bool (c1 == c2 && m1 == m2)) ∧ Below w.heap.size w w' := by
  obtain ⟨W, hW⟩ : ∃ W, (w.alloc (.cells #[.string (mkB c1), .bool m1, .string (mkB t1), .int .i64 a1] 73)).alloc (.cells #[.string (mkB c2), .bool m2, .string (mkB t2), .int .i64 a2] 73) = W := ⟨_, rfl⟩
  obtain ⟨q1, q2, hb⟩ := boxes2U w _ _ W hW
  obtain ⟨r, hr⟩ : ∃ r, (c1 == c2 && m1 == m2) = r := ⟨_, rfl⟩
  rw [hr]
  have HR := Lib.hid hr
  clear hr
  go_enter Tryz.func51, Tryz.ntmps51
  go_upto_region 1 with fail
  try simp only [hW]
  obtain ⟨T, hT⟩ : ∃ T, w.heap.size = T := ⟨_, rfl⟩
  rw [hT] at q1 q2
  try simp only [hT]
  have f1 := cells4L q1
  have f2 := cells4L q2
  have l1 := lt_of_blk q1
  have l2 := lt_of_blk q2
  have HB := Lib.hid hb
  obtain ⟨t, ht⟩ : ∃ t, (c1 == c2) = t := ⟨_, rfl⟩
  rw [ht] at HR
  clear hW hb q1 q2 hT
  cases t
  · have HE := Lib.hid (show r = false by rw [← HR.out]; rfl)
    clear HR
    go_wp2_with fail
    go_ret
    exact ⟨by rw [HE.out]; rfl, HB.out⟩
  · have HE := Lib.hid (show r = (m1 == m2) by rw [← HR.out]; rfl)
    clear HR
    go_wp2_with fail
    go_ret
    exact ⟨by rw [HE.out]; rfl, HB.out⟩
theorem txt_eq (u : List UInt8) (h : u ≠ []) : (Lib.trimS u blkL == u) = (!blankN (u.headD 0).toNat && !blankN (u.getLastD 0).toNat) := by
  have hbl : ∀ c : UInt8, isBl c = blankN c.toNat := fun c => rfl
  rw [trimS_eq]
  obtain ⟨c, l, rfl⟩ : ∃ c l, u = c :: l := by
    cases u with
    | nil => exact absurd rfl h
    | cons c l => exact ⟨c, l, rfl⟩
  have hlen := trimR_len ((c :: l).dropWhile isBl)
  cases hc : blankN c.toNat
  · have e1 : (c :: l).dropWhile isBl = c :: l := by rw [List.dropWhile_cons, if_neg (by rw [hbl, hc]; decide)]
    rw [e1]
    obtain ⟨k, d, hk⟩ : ∃ k d, c :: l = k ++ [d] := by
      rcases List.eq_nil_or_concat (c :: l) with e | ⟨k, d, e⟩
      · cases e
      · exact ⟨k, d, by rw [e, List.concat_eq_append]⟩
    have hd : (c :: l).getLastD 0 = d := by rw [hk, List.getLastD_concat]
    rw [hd]
    show _ = (!blankN c.toNat && !blankN d.toNat)
    rw [hc]
    cases hbd : blankN d.toNat
    · rw [hk, trim_last hbd]; simp
    · have h2 : trimR (c :: l) = trimR k := by rw [hk, trimR_blank hbd]
      have h3 := trimR_len k
      have h4 : (trimR (c :: l) == c :: l) = false := by
        rw [beq_eq_false_iff_ne, h2]
        intro e
        have := congrArg List.length e
        have := congrArg List.length hk
        simp at *
        omega
      rw [h4]; rfl
  · show _ = (!blankN c.toNat && _)
    rw [hc]
    have e1 : (c :: l).dropWhile isBl = l.dropWhile isBl := by rw [List.dropWhile_cons, if_pos (by rw [hbl, hc])]
    have h5 := (List.dropWhile_sublist isBl (l := l)).length_le
    have h4 : (trimR ((c :: l).dropWhile isBl) == c :: l) = false := by
      rw [beq_eq_false_iff_ne]
      intro e
      have h6 := congrArg List.length e
      rw [e1] at hlen h6
      simp at h6 hlen
      omega
    rw [h4]; rfl
set_option maxRecDepth 100000 in
set_option maxHeartbeats 4000000 in
theorem isSource_any (cn tx : List UInt8) (m : Bool) (at_ : Int) (w : World) (h1 : cn.length ≤ 16777216) (h2 : tx.length ≤ 16777216) :
    Calls Tryz.prog 37 #[.agg #[.string (mkB cn), .bool m, .string (mkB tx), .int .i64 at_]] w fun e w' => e = .returned (.bool (srcOk (cn, m, tx, at_))) ∧ Below w.heap.size w w' := by
  obtain ⟨r, hr⟩ : ∃ r, srcOk (cn, m, tx, at_) = r := ⟨_, rfl⟩
  rw [hr]
  have HR := Lib.hid hr
  unfold srcOk txtOk at HR
  clear hr
  have hw0 := heap_alloc_new w (.cells #[.string (mkB cn), .bool m, .string (mkB tx), .int .i64 at_] 73)
  have hb0 : Below w.heap.size w (w.alloc (.cells #[.string (mkB cn), .bool m, .string (mkB tx), .int .i64 at_] 73)) := (Below.refl _ _).alloc (Nat.le_refl _) _
  have hn := fun w' => isNameK_any (mkB cn) w' (by rw [mkL_size]; exact h1)
  have ht := fun w' => trim_any (mkB tx) w' (by rw [mkL_size]; exact h2)
  rw [show sb (mkB tx) = tx from sb_mk tx] at ht
  go_enter Tryz.func37, Tryz.ntmps37
  go_upto_region 1 with fail
  have HB := Lib.hid hb0
  generalize w.alloc (.cells #[.string (mkB cn), .bool m, .string (mkB tx), .int .i64 at_] 73) = w1 at *
  obtain ⟨R, hR⟩ : ∃ R, w.heap.size = R := ⟨_, rfl⟩
  rw [hR] at hw0
  try simp only [hR]
  have f := cells4L hw0
  have l := lt_of_blk hw0
  have hx := fun (x : Grow w1) => x.cell
  clear hw0 hb0 hR
  obtain ⟨t1, ht1⟩ : ∃ t, (arityL (mkB cn) == 0) = t := ⟨_, rfl⟩
  rw [ht1] at hn
  dsimp only at HR
  rw [ht1] at HR
  clear ht1
  cases t1
  · have HE := Lib.hid (show r = false by rw [← HR.out]; rfl)
    clear HR
    refine wp_region_grow (by kernel_rfl) (by kernel_rfl) ?_
    repeat (go_big_quiet_step ((go_at_call 54; with_reducible exact Grow.call _ (hn _))))
    refine wpQuiet_nil ?_
    rintro _ ⟨x, rfl⟩
    have hb := Lib.hid x.below
    clear hx hn ht
    go_wp2_with fail
    go_ret
    exact ⟨by rw [HE.out]; rfl, HB.out.trans (hb.out.mono HB.out.size)⟩
  by_cases he : tx = []
  · have HE := Lib.hid (show r = false by rw [← HR.out, he]; rfl)
    subst he
    clear HR
    refine wp_region_grow (by kernel_rfl) (by kernel_rfl) ?_
    repeat (go_big_quiet_step ((go_at_call 54; with_reducible exact Grow.call _ (hn _))))
    refine wpQuiet_nil ?_
    rintro _ ⟨x, rfl⟩
    have hb := Lib.hid x.below
    clear hx hn ht
    go_wp2_with fail
    go_ret
    exact ⟨by rw [HE.out]; rfl, HB.out.trans (hb.out.mono HB.out.size)⟩
  · have hte := txt_eq tx he
    have hem : tx.isEmpty = false := by cases tx; exact absurd rfl he; rfl
    have HE := Lib.hid (show r = (Lib.trimS tx blkL == tx) by rw [hte, ← HR.out, hem]; rfl)
    have hne : (tx == []) = false := beq_eq_false_iff_ne.2 he
    have hne2 : (tx != []) = true := by simp [bne, hne]
    clear HR hte he
    refine wp_region_grow (by kernel_rfl) (by kernel_rfl) ?_
    repeat (go_big_quiet_step ((first | (go_at_call 54; with_reducible exact Grow.call _ (hn _)) | (go_at_call 56; with_reducible exact Grow.call _ (ht _)))))
    refine wpQuiet_nil ?_
    rintro _ ⟨x, rfl⟩
    have hb := Lib.hid x.below
    clear hx hn ht
    go_wp2_with fail
    go_ret
    exact ⟨by rw [HE.out]; rfl, HB.out.trans (hb.out.mono HB.out.size)⟩
/-! ### all of a list -/
/-- what is known of a class's parts -/
def BdC (x : Cls × Value) : Prop := x.1.1.length ≤ 16777216 ∧ x.1.2.1.length ≤ 16777216 ∧ (∀ s ∈ x.1.2.2.1, s.length ≤ 16777216) ∧ x.1.2.2.1.length ≤ 100000000 ∧ (fldW x.1.2.2.1).length ≤ 16777216
def BdS (x : Src) : Prop := x.1.length ≤ 16777216 ∧ x.2.2.1.length ≤ 8388608
set_option maxRecDepth 100000 in
set_option maxHeartbeats 4000000 in
theorem allC_any (l : List (Cls × Value)) (A : Option Addr) (c B : Nat) (w : World) (hr : Rd w B A (ck_ l)) (hB : B ≤ w.heap.size) (hc : l.length ≤ c) (hl : l.length ≤ 100000000) (hs : ∀ x ∈ l, BdC x ∧ FdAt w B x) :
    Calls Tryz.prog 34 #[.slice A l.length c, .func (.func 35) #[] #[]] w fun e w' => e = .returned (.bool (l.all fun x => isClassR x.1.1 x.1.2.1 x.1.2.2.1)) ∧ Below w.heap.size w w' := by
  have HS := Lib.hid hs
  have HRd := Lib.hid hr
  clear hs hr
  go_enter Tryz.func34, Tryz.ntmps34
  go_wp2_with fail
  go_loopw [9] (fun v wr => ∃ i : Nat, i ≤ l.length ∧ v = .int .i64 (i : Int) ∧ Hid ((l.take i).all (fun x => isClassR x.1.1 x.1.2.1 x.1.2.2.1) = true) ∧ Hid (Below w.heap.size w wr)) (fun v _ => l.length - (intOf v).toNat)
  case atStart => exact ⟨0, Nat.zero_le _, rfl, Lib.hid rfl, Lib.hid (Below.refl _ _)⟩
  case round =>
    obtain ⟨i, hi, rfl, HT, HB⟩ := hrel
    by_cases hlt : i < l.length
    case neg =>
      have e : i = l.length := by omega
      have hq : ¬ ((i : Int) < (l.length : Int)) := by omega
      have HE := Lib.hid (show l.all (fun x => isClassR x.1.1 x.1.2.1 x.1.2.2.1) = true by have := HT.out; rwa [e, List.take_length] at this)
      clear e HT
      go_wp2_with fail
      go_ret
      exact ⟨by rw [HE.out]; rfl, HB.out⟩
    have hq : (i : Int) < (l.length : Int) := by omega
    obtain ⟨b, o, rfl, hb, d0, d1, d2, d3⟩ := rdC_at (HRd.out.below HB.out hB) hlt
    have hbw : b < wr.heap.size := Nat.lt_of_lt_of_le hb (Nat.le_trans hB HB.out.size)
    have HM := Lib.hid (show (l.take (i + 1)).all (fun x => isClassR x.1.1 x.1.2.1 x.1.2.2.1) = ((l.take i).all (fun x => isClassR x.1.1 x.1.2.1 x.1.2.2.1) && isClassR l[i].1.1 l[i].1.2.1 l[i].1.2.2.1) by rw [List.take_succ_eq_append_getElem hlt, List.all_append]; simp)
    have HA := Lib.hid (show isClassR l[i].1.1 l[i].1.2.1 l[i].1.2.2.1 = false → l.all (fun x => isClassR x.1.1 x.1.2.1 x.1.2.2.1) = false from fun h => List.all_eq_false.2 ⟨l[i], List.getElem_mem hlt, by rw [h]; decide⟩)
    have hS := HS.out l[i] (List.getElem_mem hlt)
    generalize l[i] = y at *
    obtain ⟨⟨nm, sp, fl, at_⟩, vf⟩ := y
    obtain ⟨⟨s1, s2, s3, s4, s5⟩, Af, cf, hvf, hfc, hAf, hrf⟩ := hS
    dsimp only at d0 d1 d2 d3 hvf hfc hAf hrf s1 s2 s3 s4 s5
    subst hvf
    go_upto_region 4 with fail
    have hb1 : Below wr.heap.size wr (wr.alloc (.cells #[.string (mkB nm), .string (mkB sp), .slice Af fl.length cf, .int .i64 at_] 87)) := (Below.refl _ _).alloc (Nat.le_refl _) _
    have hs1 := heap_alloc_new wr (.cells #[.string (mkB nm), .string (mkB sp), .slice Af fl.length cf, .int .i64 at_] 87)
    have HB1 := Lib.hid (HB.out.trans (hb1.mono HB.out.size))
    generalize wr.alloc (.cells #[.string (mkB nm), .string (mkB sp), .slice Af fl.length cf, .int .i64 at_] 87) = w1 at *
    obtain ⟨F, hF⟩ : ∃ F, wr.heap.size = F := ⟨_, rfl⟩
    rw [hF] at hs1
    try simp only [hF]
    have f := cells4L hs1
    have lf := lt_of_blk hs1
    have hcl := isClassK_any nm sp fl at_ Af cf B w1 (hrf.below HB1.out hB) (Nat.le_trans hB HB1.out.size) hfc s4 s3 s1 s2
    clear hF hb1 hs1 d0 d1 d2 d3 hb HB
    obtain ⟨t, ht⟩ : ∃ t, isClassR (((nm, sp, fl, at_), Value.slice Af fl.length cf) : Cls × Value).1.1 (((nm, sp, fl, at_), Value.slice Af fl.length cf) : Cls × Value).1.2.1 (((nm, sp, fl, at_), Value.slice Af fl.length cf) : Cls × Value).1.2.2.1 = t := ⟨_, rfl⟩
    try dsimp only at ht hcl
    rw [ht] at hcl
    have HTi := Lib.hid ht
    clear ht
    cases t
    · have HE := Lib.hid (HA.out HTi.out)
      go_wp2_with (go_at_call 35; refine hcl.mono ?_; rintro e w2 ⟨rfl, hb2⟩; clear hcl)
      go_ret
      exact ⟨by rw [HE.out]; rfl, HB1.out.trans (hb2.mono HB1.out.size)⟩
    · have HT2 := Lib.hid (show (l.take (i + 1)).all (fun x => isClassR x.1.1 x.1.2.1 x.1.2.2.1) = true by rw [HM.out, HT.out]; exact HTi.out)
      go_wp2_with (go_at_call 35; refine hcl.mono ?_; rintro e w2 ⟨rfl, hb2⟩; clear hcl)
      have HB2 := Lib.hid (HB1.out.trans (hb2.mono HB1.out.size))
      clear hb2
      go_roundw
      case rel => exact ⟨i + 1, by omega, rfl, HT2, HB2⟩
      case measure => simp [intOf]; omega
set_option maxRecDepth 100000 in
set_option maxHeartbeats 4000000 in
theorem allD_any (l : List (Cls × Value)) (A : Option Addr) (c B : Nat) (w : World) (hr : Rd w B A (ck_ l)) (hB : B ≤ w.heap.size) (hc : l.length ≤ c) (hl : l.length ≤ 100000000) (hs : ∀ x ∈ l, BdC x ∧ FdAt w B x) :
    Calls Tryz.prog 34 #[.slice A l.length c, .func (.func 38) #[] #[]] w fun e w' => e = .returned (.bool (l.all fun x => decide ((fldW x.1.2.2.1).length ≤ 4096))) ∧ Below w.heap.size w w' := by
  have HS := Lib.hid hs
  have HRd := Lib.hid hr
  clear hs hr
  go_enter Tryz.func34, Tryz.ntmps34
  go_wp2_with fail
  go_loopw [9] (fun v wr => ∃ i : Nat, i ≤ l.length ∧ v = .int .i64 (i : Int) ∧ Hid ((l.take i).all (fun x => decide ((fldW x.1.2.2.1).length ≤ 4096)) = true) ∧ Hid (Below w.heap.size w wr)) (fun v _ => l.length - (intOf v).toNat)
  case atStart => exact ⟨0, Nat.zero_le _, rfl, Lib.hid rfl, Lib.hid (Below.refl _ _)⟩
  case round =>
    obtain ⟨i, hi, rfl, HT, HB⟩ := hrel
    by_cases hlt : i < l.length
    case neg =>
      have e : i = l.length := by omega
      have hq : ¬ ((i : Int) < (l.length : Int)) := by omega
      have HE := Lib.hid (show l.all (fun x => decide ((fldW x.1.2.2.1).length ≤ 4096)) = true by have := HT.out; rwa [e, List.take_length] at this)
      clear e HT
      go_wp2_with fail
      go_ret
      exact ⟨by rw [HE.out]; rfl, HB.out⟩
    have hq : (i : Int) < (l.length : Int) := by omega
    obtain ⟨b, o, rfl, hb, d0, d1, d2, d3⟩ := rdC_at (HRd.out.below HB.out hB) hlt
    have hbw : b < wr.heap.size := Nat.lt_of_lt_of_le hb (Nat.le_trans hB HB.out.size)
    have HM := Lib.hid (show (l.take (i + 1)).all (fun x => decide ((fldW x.1.2.2.1).length ≤ 4096)) = ((l.take i).all (fun x => decide ((fldW x.1.2.2.1).length ≤ 4096)) && decide ((fldW l[i].1.2.2.1).length ≤ 4096)) by rw [List.take_succ_eq_append_getElem hlt, List.all_append]; simp)
    have HA := Lib.hid (show decide ((fldW l[i].1.2.2.1).length ≤ 4096) = false → l.all (fun x => decide ((fldW x.1.2.2.1).length ≤ 4096)) = false from fun h => List.all_eq_false.2 ⟨l[i], List.getElem_mem hlt, by rw [h]; decide⟩)
    have hS := HS.out l[i] (List.getElem_mem hlt)
    generalize l[i] = y at *
    obtain ⟨⟨nm, sp, fl, at_⟩, vf⟩ := y
    obtain ⟨⟨s1, s2, s3, s4, s5⟩, Af, cf, hvf, hfc, hAf, hrf⟩ := hS
    dsimp only at d0 d1 d2 d3 hvf hfc hAf hrf s1 s2 s3 s4 s5
    subst hvf
    go_upto_region 4 with fail
    have hb1 : Below wr.heap.size wr (wr.alloc (.cells #[.string (mkB nm), .string (mkB sp), .slice Af fl.length cf, .int .i64 at_] 87)) := (Below.refl _ _).alloc (Nat.le_refl _) _
    have hs1 := heap_alloc_new wr (.cells #[.string (mkB nm), .string (mkB sp), .slice Af fl.length cf, .int .i64 at_] 87)
    have HB1 := Lib.hid (HB.out.trans (hb1.mono HB.out.size))
    generalize wr.alloc (.cells #[.string (mkB nm), .string (mkB sp), .slice Af fl.length cf, .int .i64 at_] 87) = w1 at *
    obtain ⟨F, hF⟩ : ∃ F, wr.heap.size = F := ⟨_, rfl⟩
    rw [hF] at hs1
    try simp only [hF]
    have f := cells4L hs1
    have lf := lt_of_blk hs1
    have hcl := isReadable_any nm sp fl at_ Af cf B w1 (hrf.below HB1.out hB) (Nat.le_trans hB HB1.out.size) hfc s4 (by omega)
    clear hF hb1 hs1 d0 d1 d2 d3 hb HB
    obtain ⟨t, ht⟩ : ∃ t, decide ((fldW (((nm, sp, fl, at_), Value.slice Af fl.length cf) : Cls × Value).1.2.2.1).length ≤ 4096) = t := ⟨_, rfl⟩
    try dsimp only at ht hcl
    rw [ht] at hcl
    have HTi := Lib.hid ht
    clear ht
    cases t
    · have HE := Lib.hid (HA.out HTi.out)
      go_wp2_with (go_at_call 38; refine hcl.mono ?_; rintro e w2 ⟨rfl, hb2⟩; clear hcl)
      go_ret
      exact ⟨by rw [HE.out]; rfl, HB1.out.trans (hb2.mono HB1.out.size)⟩
    · have HT2 := Lib.hid (show (l.take (i + 1)).all (fun x => decide ((fldW x.1.2.2.1).length ≤ 4096)) = true by rw [HM.out, HT.out]; exact HTi.out)
      go_wp2_with (go_at_call 38; refine hcl.mono ?_; rintro e w2 ⟨rfl, hb2⟩; clear hcl)
      have HB2 := Lib.hid (HB1.out.trans (hb2.mono HB1.out.size))
      clear hb2
      go_roundw
      case rel => exact ⟨i + 1, by omega, rfl, HT2, HB2⟩
      case measure => simp [intOf]; omega
set_option maxRecDepth 100000 in
set_option maxHeartbeats 4000000 in
theorem allS_any (l : List Src) (A : Option Addr) (c B : Nat) (w : World) (hr : Rd w B A (sk_ l)) (hB : B ≤ w.heap.size) (hc : l.length ≤ c) (hl : l.length ≤ 100000000) (hs : ∀ x ∈ l, BdS x) :
    Calls Tryz.prog 36 #[.slice A l.length c, .func (.func 37) #[] #[]] w fun e w' => e = .returned (.bool (l.all fun x => srcOk x)) ∧ Below w.heap.size w w' := by
  have HS := Lib.hid hs
  have HRd := Lib.hid hr
  clear hs hr
  go_enter Tryz.func36, Tryz.ntmps36
  go_wp2_with fail
  go_loopw [9] (fun v wr => ∃ i : Nat, i ≤ l.length ∧ v = .int .i64 (i : Int) ∧ Hid ((l.take i).all (fun x => srcOk x) = true) ∧ Hid (Below w.heap.size w wr)) (fun v _ => l.length - (intOf v).toNat)
  case atStart => exact ⟨0, Nat.zero_le _, rfl, Lib.hid rfl, Lib.hid (Below.refl _ _)⟩
  case round =>
    obtain ⟨i, hi, rfl, HT, HB⟩ := hrel
    by_cases hlt : i < l.length
    case neg =>
      have e : i = l.length := by omega
      have hq : ¬ ((i : Int) < (l.length : Int)) := by omega
      have HE := Lib.hid (show l.all (fun x => srcOk x) = true by have := HT.out; rwa [e, List.take_length] at this)
      clear e HT
      go_wp2_with fail
      go_ret
      exact ⟨by rw [HE.out]; rfl, HB.out⟩
    have hq : (i : Int) < (l.length : Int) := by omega
    obtain ⟨b, o, rfl, hb, d0, d1, d2, d3⟩ := rdX_at (HRd.out.below HB.out hB) hlt
    have hbw : b < wr.heap.size := Nat.lt_of_lt_of_le hb (Nat.le_trans hB HB.out.size)
    have HM := Lib.hid (show (l.take (i + 1)).all (fun x => srcOk x) = ((l.take i).all (fun x => srcOk x) && srcOk l[i]) by rw [List.take_succ_eq_append_getElem hlt, List.all_append]; simp)
    have HA := Lib.hid (show srcOk l[i] = false → l.all (fun x => srcOk x) = false from fun h => List.all_eq_false.2 ⟨l[i], List.getElem_mem hlt, by rw [h]; decide⟩)
    have hS := HS.out l[i] (List.getElem_mem hlt)
    generalize l[i] = y at *
    obtain ⟨cn, mt, tx, at_⟩ := y
    obtain ⟨s1, s2⟩ := hS
    dsimp only at d0 d1 d2 d3 s1 s2
    go_upto_region 4 with fail
    have hb1 : Below wr.heap.size wr (wr.alloc (.cells #[.string (mkB cn), .bool mt, .string (mkB tx), .int .i64 at_] 73)) := (Below.refl _ _).alloc (Nat.le_refl _) _
    have hs1 := heap_alloc_new wr (.cells #[.string (mkB cn), .bool mt, .string (mkB tx), .int .i64 at_] 73)
    have HB1 := Lib.hid (HB.out.trans (hb1.mono HB.out.size))
    generalize wr.alloc (.cells #[.string (mkB cn), .bool mt, .string (mkB tx), .int .i64 at_] 73) = w1 at *
    obtain ⟨F, hF⟩ : ∃ F, wr.heap.size = F := ⟨_, rfl⟩
    rw [hF] at hs1
    try simp only [hF]
    have f := cells4L hs1
    have lf := lt_of_blk hs1
    have hcl := isSource_any cn tx mt at_ w1 s1 (by omega)
    clear hF hb1 hs1 d0 d1 d2 d3 hb HB
    obtain ⟨t, ht⟩ : ∃ t, srcOk ((cn, mt, tx, at_) : Src) = t := ⟨_, rfl⟩
    try dsimp only at ht hcl
    rw [ht] at hcl
    have HTi := Lib.hid ht
    clear ht
    cases t
    · have HE := Lib.hid (HA.out HTi.out)
      go_wp2_with (go_at_call 37; refine hcl.mono ?_; rintro e w2 ⟨rfl, hb2⟩; clear hcl)
      go_ret
      exact ⟨by rw [HE.out]; rfl, HB1.out.trans (hb2.mono HB1.out.size)⟩
    · have HT2 := Lib.hid (show (l.take (i + 1)).all (fun x => srcOk x) = true by rw [HM.out, HT.out]; exact HTi.out)
      go_wp2_with (go_at_call 37; refine hcl.mono ?_; rintro e w2 ⟨rfl, hb2⟩; clear hcl)
      have HB2 := Lib.hid (HB1.out.trans (hb2.mono HB1.out.size))
      clear hb2
      go_roundw
      case rel => exact ⟨i + 1, by omega, rfl, HT2, HB2⟩
      case measure => simp [intOf]; omega
end Go.Proofs.YtmdkneollidkfaaGreatDoor.Fl
