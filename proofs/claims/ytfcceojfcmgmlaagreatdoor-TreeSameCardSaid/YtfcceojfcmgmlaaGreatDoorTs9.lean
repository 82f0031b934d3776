/-
  The program's Check of any method.
-/
import Derived.Test.YtfcceojfcmgmlaaGreatDoorTs8
import Derived.Shelf.Strings.OnBuilder
import Derived.Deep.DeepCutAuto
namespace Go.Proofs.YtfcceojfcmgmlaaGreatDoor.Fl
open Go.RowKit Go.Shelf

set_option maxRecDepth 100000 in
set_option maxHeartbeats 8000000 in
theorem check10_any (m : Me) (v : Value) (B : Nat) (w : World) (h : MeAt w (Lo B) v m) (hB : B ≤ w.heap.size) (hn : NkM m) (hs : cntL m.bd ≤ 10000000) :
    Calls Tryz.prog 10 #[v] w fun e w' => e = .returned (.int .i64 (checkM m)) ∧ Below w.heap.size w w' := by
  have HM := Lib.hid (fun (w' : World) (hb : Below w.heap.size w w') => meth_any m v B w' (h.below (hb.mono hB) (Nat.le_refl _)) (Nat.le_trans hB hb.size) hn)
  have HW1 := Lib.hid (fun (w' : World) (hb : Below w.heap.size w w') => wshM_any m v B w' (h.below (hb.mono hB) (Nat.le_refl _)) (Nat.le_trans hB hb.size))
  have HW2 := Lib.hid (fun (w' : World) (hb : Below w.heap.size w w') => wsmM_any m v B w' (h.below (hb.mono hB) (Nat.le_refl _)) (Nat.le_trans hB hb.size))
  have HD := Lib.hid (fun (w' : World) (hb : Below w.heap.size w w') => depthM_any m v B w' (h.below (hb.mono hB) (Nat.le_refl _)) (Nat.le_trans hB hb.size) hs)
  obtain ⟨Ap, cp, At, ct, Ab, cb, rfl, -⟩ := h.ex
  have hdd := depL_cnt m.bd
  clear h hn hB
  obtain ⟨W1, hW1⟩ : ∃ W, w.alloc (.cells #[.string (mkB m.nm), .slice Ap m.ps.length cp, .slice At m.ts.length ct, .int .i64 m.pr, .slice Ab m.bd.length cb, .int .i64 m.at_] 30) = W := ⟨_, rfl⟩
  obtain ⟨X, hX⟩ : ∃ X, w.heap.size = X := ⟨_, rfl⟩
  have hb1 : Below w.heap.size w W1 := by rw [← hW1]; exact (Below.refl _ _).alloc (Nat.le_refl _) _
  have hx1 : W1.heap[X]? = some (.cells #[.string (mkB m.nm), .slice Ap m.ps.length cp, .slice At m.ts.length ct, .int .i64 m.pr, .slice Ab m.bd.length cb, .int .i64 m.at_] 30 (0, 0)) := by
    rw [← hW1, ← hX]; exact heap_alloc_new w _
  obtain ⟨r, hr⟩ : ∃ r, checkM m = r := ⟨_, rfl⟩
  rw [hr]
  have HR := Lib.hid hr
  unfold checkM at HR
  have HB1 := Lib.hid hb1
  obtain ⟨t1, ht1⟩ : ∃ t, methB m = t := ⟨_, rfl⟩
  obtain ⟨t2, ht2⟩ : ∃ t, (allL m.bd).all shrtN = t := ⟨_, rfl⟩
  obtain ⟨t3, ht3⟩ : ∃ t, (allL m.bd).all smalN = t := ⟨_, rfl⟩
  rw [ht1] at HM HR
  rw [ht2] at HW1 HR
  rw [ht3] at HW2 HR
  clear ht1 ht2 ht3 hr
  generalize depL m.bd = d at *
  go_enter Tryz.func10, Tryz.ntmps10
  go_upto_region 1 with fail
  try simp only [hW1, hX]
  clear hW1 hX hb1
  have f1 := cells6T hx1
  have l1 := lt_of_blk hx1
  cases t1
  · have HE := Lib.hid (show r = 3 from by rw [← HR.out]; simp [])
    go_wp2_with (go_at_call 25; refine (HM.out _ HB1.out).mono ?_; rintro e w2 ⟨rfl, hb2⟩; replace HB1 := Lib.hid (HB1.out.trans (hb2.mono HB1.out.size)); replace hx1 := (hb2.block _ l1).trans hx1; replace f1 := cells6T hx1; replace l1 := lt_of_blk hx1; clear hb2)
    all_goals go_ret
    all_goals exact ⟨by rw [HE.out]; rfl, HB1.out⟩
  cases t2
  · have HE := Lib.hid (show r = 2 from by rw [← HR.out]; simp [])
    go_wp2_with (first
      | (go_at_call 25; refine (HM.out _ HB1.out).mono ?_; rintro e w2 ⟨rfl, hb2⟩; replace HB1 := Lib.hid (HB1.out.trans (hb2.mono HB1.out.size)); replace hx1 := (hb2.block _ l1).trans hx1; replace f1 := cells6T hx1; replace l1 := lt_of_blk hx1; clear hb2)
      | (go_at_call 21; refine (HW1.out _ HB1.out).mono ?_; rintro e w2 ⟨rfl, hb2⟩; replace HB1 := Lib.hid (HB1.out.trans (hb2.mono HB1.out.size)); replace hx1 := (hb2.block _ l1).trans hx1; replace f1 := cells6T hx1; replace l1 := lt_of_blk hx1; clear hb2; clear HW1)
      )
    all_goals go_ret
    all_goals exact ⟨by rw [HE.out]; rfl, HB1.out⟩
  cases t3
  · have HE := Lib.hid (show r = 9 from by rw [← HR.out]; simp [])
    go_wp2_with (first
      | (go_at_call 25; refine (HM.out _ HB1.out).mono ?_; rintro e w2 ⟨rfl, hb2⟩; replace HB1 := Lib.hid (HB1.out.trans (hb2.mono HB1.out.size)); replace hx1 := (hb2.block _ l1).trans hx1; replace f1 := cells6T hx1; replace l1 := lt_of_blk hx1; clear hb2)
      | (go_at_call 21; refine (HW1.out _ HB1.out).mono ?_; rintro e w2 ⟨rfl, hb2⟩; replace HB1 := Lib.hid (HB1.out.trans (hb2.mono HB1.out.size)); replace hx1 := (hb2.block _ l1).trans hx1; replace f1 := cells6T hx1; replace l1 := lt_of_blk hx1; clear hb2; clear HW1)
      | (go_at_call 21; refine (HW2.out _ HB1.out).mono ?_; rintro e w2 ⟨rfl, hb2⟩; replace HB1 := Lib.hid (HB1.out.trans (hb2.mono HB1.out.size)); replace hx1 := (hb2.block _ l1).trans hx1; replace f1 := cells6T hx1; replace l1 := lt_of_blk hx1; clear hb2)
      )
    all_goals go_ret
    all_goals exact ⟨by rw [HE.out]; rfl, HB1.out⟩
  by_cases hd : (40 : Int) < (d : Int)
  · have HE := Lib.hid (show r = 10 from by rw [← HR.out]; simp; omega)
    go_wp2_with (first
      | (go_at_call 25; refine (HM.out _ HB1.out).mono ?_; rintro e w2 ⟨rfl, hb2⟩; replace HB1 := Lib.hid (HB1.out.trans (hb2.mono HB1.out.size)); replace hx1 := (hb2.block _ l1).trans hx1; replace f1 := cells6T hx1; replace l1 := lt_of_blk hx1; clear hb2)
      | (go_at_call 21; refine (HW1.out _ HB1.out).mono ?_; rintro e w2 ⟨rfl, hb2⟩; replace HB1 := Lib.hid (HB1.out.trans (hb2.mono HB1.out.size)); replace hx1 := (hb2.block _ l1).trans hx1; replace f1 := cells6T hx1; replace l1 := lt_of_blk hx1; clear hb2; clear HW1)
      | (go_at_call 21; refine (HW2.out _ HB1.out).mono ?_; rintro e w2 ⟨rfl, hb2⟩; replace HB1 := Lib.hid (HB1.out.trans (hb2.mono HB1.out.size)); replace hx1 := (hb2.block _ l1).trans hx1; replace f1 := cells6T hx1; replace l1 := lt_of_blk hx1; clear hb2)
      | (go_at_call 12; refine (HD.out _ HB1.out).mono ?_; rintro e w2 ⟨rfl, hb2⟩; replace HB1 := Lib.hid (HB1.out.trans (hb2.mono HB1.out.size)); replace hx1 := (hb2.block _ l1).trans hx1; replace f1 := cells6T hx1; replace l1 := lt_of_blk hx1; clear hb2)
      )
    all_goals go_ret
    all_goals exact ⟨by rw [HE.out]; rfl, HB1.out⟩
  · have HE := Lib.hid (show r = 0 from by rw [← HR.out]; simp; omega)
    go_wp2_with (first
      | (go_at_call 25; refine (HM.out _ HB1.out).mono ?_; rintro e w2 ⟨rfl, hb2⟩; replace HB1 := Lib.hid (HB1.out.trans (hb2.mono HB1.out.size)); replace hx1 := (hb2.block _ l1).trans hx1; replace f1 := cells6T hx1; replace l1 := lt_of_blk hx1; clear hb2)
      | (go_at_call 21; refine (HW1.out _ HB1.out).mono ?_; rintro e w2 ⟨rfl, hb2⟩; replace HB1 := Lib.hid (HB1.out.trans (hb2.mono HB1.out.size)); replace hx1 := (hb2.block _ l1).trans hx1; replace f1 := cells6T hx1; replace l1 := lt_of_blk hx1; clear hb2; clear HW1)
      | (go_at_call 21; refine (HW2.out _ HB1.out).mono ?_; rintro e w2 ⟨rfl, hb2⟩; replace HB1 := Lib.hid (HB1.out.trans (hb2.mono HB1.out.size)); replace hx1 := (hb2.block _ l1).trans hx1; replace f1 := cells6T hx1; replace l1 := lt_of_blk hx1; clear hb2)
      | (go_at_call 12; refine (HD.out _ HB1.out).mono ?_; rintro e w2 ⟨rfl, hb2⟩; replace HB1 := Lib.hid (HB1.out.trans (hb2.mono HB1.out.size)); replace hx1 := (hb2.block _ l1).trans hx1; replace f1 := cells6T hx1; replace l1 := lt_of_blk hx1; clear hb2)
      )
    all_goals go_ret
    all_goals exact ⟨by rw [HE.out]; rfl, HB1.out⟩
end Go.Proofs.YtfcceojfcmgmlaaGreatDoor.Fl

/-
  The program's printer: a builder within a struct; what is put into it.
-/
namespace Go.Proofs.YtfcceojfcmgmlaaGreatDoor.Fl
open Go.RowKit Go.Shelf

/-- a printer of a block of the call's own that holds these bytes -/
abbrev PrAt (w : World) (B b : Nat) (p : Value) (l : List UInt8) : Prop := Lib.BuilderAt 69 5 B b p (Lib.byteCells l) w
def PrIs (w : World) (B b : Nat) (l : List UInt8) : Prop := Lib.IsBuilder 69 5 B b (Lib.byteCells l) w
theorem PrIs.at_ {w : World} {B b : Nat} {l : List UInt8} (h : PrIs w B b l) : ∃ p, PrAt w B b p l := by
  rcases h with h | h
  · exact ⟨_, h⟩
  · exact ⟨_, h⟩
theorem PrAt.below {w w' : World} {B b : Nat} {p : Value} {l : List UInt8} (h : PrAt w B b p l) (hb : Below w.heap.size w w') : PrAt w' B b p l := by
  obtain ⟨hB, v, hbk, hown, hne⟩ := h
  exact ⟨hB, v, (hb.block b (lt_of_blk hbk)).trans hbk, ⟨hown.1, hown.2.elim .inl fun ⟨g, cap, cur, hv, hbg, hg, r⟩ => .inr ⟨g, cap, cur, hv, hbg, (hb.block g (lt_of_blk hg)).trans hg, r⟩⟩, hne⟩
theorem PrIs.below {w w' : World} {B b : Nat} {l : List UInt8} (h : PrIs w B b l) (hb : Below w.heap.size w w') : PrIs w' B b l := by
  rcases h with h | h
  · exact .inl (PrAt.below h hb)
  · exact .inr (PrAt.below h hb)
/-- what is neither a printer nor a row of bytes is as it was -/
def KpP (w w' : World) : Prop := w.heap.size ≤ w'.heap.size ∧ ∀ (k : Nat) (cs : Array Value) (T : TypeId) (fr : Nat × Nat), w.heap[k]? = some (Obj.cells cs T fr) → T ≠ 69 → T ≠ 5 → w'.heap[k]? = some (Obj.cells cs T fr)
theorem KpP.refl (w : World) : KpP w w := ⟨Nat.le_refl _, fun _ _ _ _ h _ _ => h⟩
theorem KpP.trans {w1 w2 w3 : World} (h : KpP w1 w2) (h' : KpP w2 w3) : KpP w1 w3 := ⟨Nat.le_trans h.1 h'.1, fun k cs T fr hk h1 h2 => h'.2 k cs T fr (h.2 k cs T fr hk h1 h2) h1 h2⟩
theorem KpP.cell {w : World} {b : Nat} {cs : Array Value} {fr : Nat × Nat} (hb : w.heap[b]? = some (.cells cs 69 fr)) (k : Nat) (x : Value) : KpP w (w.setCell ⟨b, k, none⟩ x) := by
  refine ⟨((Below.refl b w).setCell (p := ⟨b, k, none⟩) (Nat.le_refl _) x).size, fun j cs' T fr' hj h1 _ => ?_⟩
  have hne : j ≠ b := fun e => by
    subst e
    rw [hb] at hj
    injection hj with hj
    injection hj with _ hj _
    exact h1 hj.symm
  exact (Below.heap_setCell w ⟨b, k, none⟩ x j hne).trans hj
theorem KpP.of {w w' : World} (h : Below w.heap.size w w') : KpP w w' := ⟨h.size, fun k _cs _T _fr hk _ _ => (h.block k (lt_of_blk hk)).trans hk⟩
set_option maxRecDepth 100000 in
set_option maxHeartbeats 1000000 in
theorem checkP_fresh (b : Nat) (w : World) (h0 : w.cell? ⟨b, 0, none⟩ = some (.pointer none)) (hsh : w.shape? b = some (69, 2)) (hfz : w.frozen? ⟨b, 0, none⟩ = false) :
    Calls Tryz.prog 82 #[.pointer (some ⟨b, 0, none⟩)] w fun e w' => e = .returned (.tuple #[]) ∧ w' = w.setCell ⟨b, 0, none⟩ (.pointer (some ⟨b, 0, none⟩)) := by
  obtain ⟨j, hj, hjs⟩ := Option.map_eq_some_iff.1 (show (Tryz.prog.info? 67).map (·.size) = some 2 by kernel_rfl)
  have hl : liesAt Tryz.prog Tryz.prog.depth 69 (2 / Tryz.prog.cellsOf 69) 0 67 1 = true := by kernel_rfl
  go_enter Tryz.func82, Tryz.ntmps82
  go_wp2_with fail
  rw [Lib.run_to_unsafe w ⟨b, 0, none⟩ Tryz.underlying64 Tryz.underlying115 hj (by rw [hjs]; decide) hsh (Nat.zero_lt_succ 1)]
  simp only [Result.andThen]
  rw [Oper.upon_value]
  go_wp2_with fail
  rw [run_callFunc_extern Tryz.func104 (by kernel_rfl) (by kernel_rfl) (by kernel_rfl) (e := Extern.AbiNoEscape.same) (by kernel_rfl)]
  rw [Lib.run_noEscape]
  simp only [Result.andThen]
  rw [Oper.upon_value]
  go_wp2_with fail
  rw [Lib.run_from_unsafe w ⟨b, 0, none⟩ Tryz.underlying115 Tryz.underlying64 hj hsh hl]
  simp only [Result.andThen]
  rw [Oper.upon_value]
  go_wp2_with fail
  try (rw [Lib.run_neq_ptr_same _ _ Tryz.underlying64 hj]; go_wp2_with fail)
  go_end0
  exact ⟨rfl, rfl⟩
theorem checkP_any (B b : Nat) (l : List UInt8) (w : World) (h : PrIs w B b l) :
    Calls Tryz.prog 82 #[.pointer (some ⟨b, 0, none⟩)] w fun e w' => e = .returned (.tuple #[]) ∧ PrAt w' B b (.pointer (some ⟨b, 0, none⟩)) l ∧ Below B w w' ∧ KpP w w' := by
  rcases h with h | h
  · refine (checkP_fresh b w h.cell0 h.shape h.frozen0).mono ?_
    rintro e w' ⟨rfl, rfl⟩
    refine ⟨rfl, h.used _, (Below.refl B w).setCell (p := ⟨b, 0, none⟩) h.1 _, ?_⟩
    obtain ⟨_, v, hbk, _⟩ := h
    exact KpP.cell hbk 0 _
  · refine (copyCheck_used b w h.cell0).mono ?_
    rintro e w' ⟨rfl, rfl⟩
    exact ⟨rfl, h, Below.refl B _, KpP.refl _⟩
set_option maxRecDepth 100000 in
set_option maxHeartbeats 1000000 in
theorem writeP_any (B b : Nat) (l : List UInt8) (s : ByteArray) (w : World) (h : PrIs w B b l) (hlen : l.length + s.size ≤ 140737488355328) (hBw : B ≤ w.heap.size) :
    Calls Tryz.prog 61 #[.pointer (some ⟨b, 0, none⟩), .string s] w fun e w' => e = .returned (.tuple #[.int .i64 s.size, .nilIface]) ∧ PrIs w' B b (l ++ sb s) ∧ Below B w w' ∧ KpP w w' := by
  obtain ⟨i0, hi, hz0, hz1, hz2⟩ := info_parts u8infoL
  have hcc := checkP_any B b l w h
  clear h
  go_enter Tryz.func61, Tryz.ntmps61
  go_wp2_with fail
  refine hcc.mono ?_
  rintro e w1 ⟨rfl, h, hb1, hk1⟩
  clear hcc
  have HB1 := Lib.hid hb1
  have HK1 := Lib.hid hk1
  have hBw1 : B ≤ w1.heap.size := Nat.le_trans hBw hb1.size
  obtain ⟨hB, v, hbk, hown, hne⟩ := h
  have c1 : w1.cell? ⟨b, 1, none⟩ = some v := by rw [Lib.cell_of_heap hbk]; rfl
  have hlb : (Lib.byteCells l).length = l.length := Lib.byteCells_length l
  rw [hlb] at hown
  have HOw := Lib.hid hown
  have HBk := Lib.hid hbk
  have HNe := Lib.hid hne
  clear hown hbk hne hlb hb1 hk1
  go_wp2_with (at_builtin; refine Lib.wpList_append_own_string _ rfl _ _ 65 9 rfl B 5 i0 Tryz.underlying65 Tryz.underlying9 hi hz0 hz1 hz2 _ _ _ rfl HOw.out s rfl ?c3 ?c4 ?c5 ?_)
  case c3 => unfold maxLen; omega
  case c4 => omega
  case c5 => exact hBw1
  intro v' w2 hown' hgrow _
  have hlt := lt_of_blk HBk.out
  have hb2 : w2.heap[b]? = some (.cells #[.pointer (some ⟨b, 0, none⟩), v] 69 (0, 0)) := (hgrow.block b hlt (fun e => HNe.out e.symm)).trans HBk.out
  have d0 : w2.cell? ⟨b, 0, none⟩ = some (.pointer (some ⟨b, 0, none⟩)) := by rw [Lib.cell_of_heap hb2]; rfl
  have d1 : w2.cell? ⟨b, 1, none⟩ = some v := by rw [Lib.cell_of_heap hb2]; rfl
  have f1 : w2.frozen? ⟨b, 1, none⟩ = false := Lib.frozen_of_heap hb2 1
  have hlt2 := lt_of_blk hb2
  obtain ⟨ao, n', cap, rfl⟩ : ∃ ao n' cap, v' = .slice ao n' cap := by
    rcases hown'.2 with ⟨hv, _⟩ | ⟨g, cap, cur, hv, _⟩
    · exact ⟨_, _, _, hv⟩
    · exact ⟨_, _, _, hv⟩
  have HO2 := Lib.hid hown'
  have HG2 := Lib.hid hgrow
  have HB2 := Lib.hid hb2
  clear hown' hgrow hb2
  go_wp2_with fail
  go_ret2
  refine ⟨rfl, .inr ?_, ?_, HK1.out.trans ?_⟩
  · have h9 := Lib.BuilderAt.put (T := 69) (e := 5) hB HB2.out (bs' := Lib.byteCells l ++ Lib.strCells s) (by have := HO2.out; simpa [Lib.strCells_length, Lib.byteCells_length] using this) (by decide)
    rw [strCells_sb, ← Lib.byteCells_append] at h9
    exact h9
  · exact HB1.out.trans (((Below.refl B w1).grown HG2.out hBw1 (fun k hk => (HOw.out.lt k hk).1)).setCell (p := ⟨b, 1, none⟩) hB _)
  · refine KpP.trans (w2 := w2) ⟨((Below.refl B w1).grown HG2.out hBw1 (fun k hk => (HOw.out.lt k hk).1)).size, fun k cs T fr hk h1 h2 => (HG2.out.block k (lt_of_blk hk) (own_ne HOw.out hk h2).symm).trans hk⟩ (KpP.cell HB2.out 1 _)
end Go.Proofs.YtfcceojfcmgmlaaGreatDoor.Fl

/-
  So many parts, with a text between: the program's each.
-/
namespace Go.Proofs.YtfcceojfcmgmlaaGreatDoor.Fl
open Go.RowKit Go.Shelf

/-- texts with one between -/
def joinT (bt : List UInt8) (t : Nat → List UInt8) : Nat → List UInt8
  | 0 => []
  | n + 1 => joinT bt t n ++ ((if n = 0 then [] else bt) ++ t n)
theorem joinT_le (bt : List UInt8) (t : Nat → List UInt8) {i : Nat} : ∀ {n : Nat}, i ≤ n → (joinT bt t i).length ≤ (joinT bt t n).length
  | 0, h => by rw [Nat.le_zero.1 h]; exact Nat.le_refl _
  | n + 1, h => by
    rcases Nat.lt_or_ge n i with h1 | h1
    · rw [show i = n + 1 by omega]; exact Nat.le_refl _
    · have := joinT_le bt t h1
      rw [joinT, List.length_append]; omega
/-- what a part of the printer does: it writes this -/
def PrPost (B b : Nat) (w : World) (l : List UInt8) (e : Ending) (w' : World) : Prop := e = .returned (.tuple #[]) ∧ PrIs w' B b l ∧ Below B w w' ∧ KpP w w'
theorem mk_sz (l : List UInt8) : (mkB l).size = l.length := by simp [ByteArray.size]
theorem sb_mkB (l : List UInt8) : sb (mkB l) = l := by simp [sb]
set_option maxRecDepth 100000 in
set_option maxHeartbeats 8000000 in
theorem each_msg (q0 q1 q2 : Nat) (B b n : Nat) (bt : List UInt8) (t : Nat → List UInt8) (acc : List UInt8) (w : World) (h : PrIs w B b acc) (hB : B ≤ w.heap.size) (hn : n ≤ 100000000) (hl : (acc ++ joinT bt t n).length ≤ 1000000000)
    (HF : ∀ (i : Nat) (w' : World) (l : List UInt8), i < n → Below B w w' → KpP w w' → PrIs w' B b l → l.length + (t i).length ≤ 1000000000 → Calls Tryz.prog 81 #[.int .i64 (i : Int), .pointer (some ⟨q0, 0, none⟩), .pointer (some ⟨q1, 0, none⟩), .pointer (some ⟨q2, 0, none⟩)] w' (PrPost B b w' (l ++ t i))) :
    Calls Tryz.prog 80 #[.pointer (some ⟨b, 0, none⟩), .int .i64 (n : Int), .string (mkB bt), .func (.func 81) #[] #[.pointer (some ⟨q0, 0, none⟩), .pointer (some ⟨q1, 0, none⟩), .pointer (some ⟨q2, 0, none⟩)]] w (PrPost B b w (acc ++ joinT bt t n)) := by
  have HF := Lib.hid HF
  have HW := Lib.hid h
  clear h
  go_enter Tryz.func80, Tryz.ntmps80
  go_wp2_with fail
  go_loopw [10] (fun v wr => ∃ i : Nat, i ≤ n ∧ v = .int .i64 (i : Int) ∧ Hid (PrIs wr B b (acc ++ joinT bt t i)) ∧ Hid (Below B w wr ∧ KpP w wr)) (fun v _ => n - (intOf v).toNat)
  case atStart => exact ⟨0, Nat.zero_le _, rfl, Lib.hid (by rw [joinT, List.append_nil]; exact HW.out), Lib.hid ⟨Below.refl _ _, KpP.refl _⟩⟩
  case round =>
    obtain ⟨i, hi, rfl, HT, HB⟩ := hrel
    by_cases hlt : i < n
    case neg =>
      have e : i = n := by omega
      have hq : ¬ ((i : Int) < (n : Int)) := by omega
      rw [e] at HT
      go_wp2_with fail
      go_end0
      exact ⟨rfl, HT.out, HB.out.1, HB.out.2⟩
    have hq : (i : Int) < (n : Int) := by omega
    have hBr : B ≤ wr.heap.size := Nat.le_trans hB HB.out.2.1
    have hle := joinT_le bt t (show i + 1 ≤ n from hlt)
    have hj : joinT bt t (i + 1) = joinT bt t i ++ ((if i = 0 then [] else bt) ++ t i) := rfl
    rw [hj, List.length_append, List.length_append] at hle
    rw [List.length_append] at hl
    have HJ := Lib.hid hj
    clear hj
    by_cases h0 : i = 0
    · subst h0
      have hcl := HF.out 0 wr (acc ++ joinT bt t 0) hlt HB.out.1 HB.out.2 HT.out (by rw [List.length_append]; simp at hle; omega)
      have hq0 : ¬ (0 : Int) < 0 := by omega
      go_wp2_with (go_at_call 81; refine hcl.mono ?_; rintro e w2 ⟨rfl, hp, hb2, hk2⟩; have HP := Lib.hid hp; have HB2 := Lib.hid (And.intro (HB.out.1.trans hb2) (HB.out.2.trans hk2)); clear hcl hp hb2 hk2)
      go_roundw
      case rel => exact ⟨1, by omega, by simp, Lib.hid (by rw [show (1 : Nat) = 0 + 1 from rfl, HJ.out]; simpa [joinT] using HP.out), HB2⟩
      case measure => simp [intOf]; omega
    · have hq0 : (0 : Int) < (i : Int) := by omega
      rw [if_neg h0] at hle HJ
      have hwr := writeP_any B b (acc ++ joinT bt t i) (mkB bt) wr HT.out (by rw [mk_sz, List.length_append]; omega) hBr
      have hlen2 : (acc ++ joinT bt t i ++ bt).length + (t i).length ≤ 1000000000 := by rw [List.length_append, List.length_append]; omega
      go_wp2_with (first
        | (go_at_call 61; refine hwr.mono ?_; rintro e w2 ⟨rfl, hp, hb2, hk2⟩; rw [sb_mkB] at hp; have hcl := HF.out i w2 (acc ++ joinT bt t i ++ bt) hlt (HB.out.1.trans hb2) (HB.out.2.trans hk2) hp hlen2; have HB2 := Lib.hid (And.intro (HB.out.1.trans hb2) (HB.out.2.trans hk2)); clear hwr hp hb2 hk2)
        | (go_at_call 81; refine hcl.mono ?_; rintro e w3 ⟨rfl, hp, hb3, hk3⟩; have HP := Lib.hid hp; have HB3 := Lib.hid (And.intro (HB2.out.1.trans hb3) (HB2.out.2.trans hk3)); clear hcl hp hb3 hk3))
      go_roundw
      case rel => exact ⟨i + 1, by omega, by simp, Lib.hid (by rw [HJ.out]; simpa [List.append_assoc] using HP.out), HB3⟩
      case measure => simp [intOf]; omega
set_option maxRecDepth 100000 in
set_option maxHeartbeats 8000000 in
theorem each_st (q0 q1 : Nat) (B b n : Nat) (bt : List UInt8) (t : Nat → List UInt8) (acc : List UInt8) (w : World) (h : PrIs w B b acc) (hB : B ≤ w.heap.size) (hn : n ≤ 100000000) (hl : (acc ++ joinT bt t n).length ≤ 1000000000)
    (HF : ∀ (i : Nat) (w' : World) (l : List UInt8), i < n → Below B w w' → KpP w w' → PrIs w' B b l → l.length + (t i).length ≤ 1000000000 → Calls Tryz.prog 85 #[.int .i64 (i : Int), .pointer (some ⟨q0, 0, none⟩), .pointer (some ⟨q1, 0, none⟩)] w' (PrPost B b w' (l ++ t i))) :
    Calls Tryz.prog 80 #[.pointer (some ⟨b, 0, none⟩), .int .i64 (n : Int), .string (mkB bt), .func (.func 85) #[] #[.pointer (some ⟨q0, 0, none⟩), .pointer (some ⟨q1, 0, none⟩)]] w (PrPost B b w (acc ++ joinT bt t n)) := by
  have HF := Lib.hid HF
  have HW := Lib.hid h
  clear h
  go_enter Tryz.func80, Tryz.ntmps80
  go_wp2_with fail
  go_loopw [10] (fun v wr => ∃ i : Nat, i ≤ n ∧ v = .int .i64 (i : Int) ∧ Hid (PrIs wr B b (acc ++ joinT bt t i)) ∧ Hid (Below B w wr ∧ KpP w wr)) (fun v _ => n - (intOf v).toNat)
  case atStart => exact ⟨0, Nat.zero_le _, rfl, Lib.hid (by rw [joinT, List.append_nil]; exact HW.out), Lib.hid ⟨Below.refl _ _, KpP.refl _⟩⟩
  case round =>
    obtain ⟨i, hi, rfl, HT, HB⟩ := hrel
    by_cases hlt : i < n
    case neg =>
      have e : i = n := by omega
      have hq : ¬ ((i : Int) < (n : Int)) := by omega
      rw [e] at HT
      go_wp2_with fail
      go_end0
      exact ⟨rfl, HT.out, HB.out.1, HB.out.2⟩
    have hq : (i : Int) < (n : Int) := by omega
    have hBr : B ≤ wr.heap.size := Nat.le_trans hB HB.out.2.1
    have hle := joinT_le bt t (show i + 1 ≤ n from hlt)
    have hj : joinT bt t (i + 1) = joinT bt t i ++ ((if i = 0 then [] else bt) ++ t i) := rfl
    rw [hj, List.length_append, List.length_append] at hle
    rw [List.length_append] at hl
    have HJ := Lib.hid hj
    clear hj
    by_cases h0 : i = 0
    · subst h0
      have hcl := HF.out 0 wr (acc ++ joinT bt t 0) hlt HB.out.1 HB.out.2 HT.out (by rw [List.length_append]; simp at hle; omega)
      have hq0 : ¬ (0 : Int) < 0 := by omega
      go_wp2_with (go_at_call 85; refine hcl.mono ?_; rintro e w2 ⟨rfl, hp, hb2, hk2⟩; have HP := Lib.hid hp; have HB2 := Lib.hid (And.intro (HB.out.1.trans hb2) (HB.out.2.trans hk2)); clear hcl hp hb2 hk2)
      go_roundw
      case rel => exact ⟨1, by omega, by simp, Lib.hid (by rw [show (1 : Nat) = 0 + 1 from rfl, HJ.out]; simpa [joinT] using HP.out), HB2⟩
      case measure => simp [intOf]; omega
    · have hq0 : (0 : Int) < (i : Int) := by omega
      rw [if_neg h0] at hle HJ
      have hwr := writeP_any B b (acc ++ joinT bt t i) (mkB bt) wr HT.out (by rw [mk_sz, List.length_append]; omega) hBr
      have hlen2 : (acc ++ joinT bt t i ++ bt).length + (t i).length ≤ 1000000000 := by rw [List.length_append, List.length_append]; omega
      go_wp2_with (first
        | (go_at_call 61; refine hwr.mono ?_; rintro e w2 ⟨rfl, hp, hb2, hk2⟩; rw [sb_mkB] at hp; have hcl := HF.out i w2 (acc ++ joinT bt t i ++ bt) hlt (HB.out.1.trans hb2) (HB.out.2.trans hk2) hp hlen2; have HB2 := Lib.hid (And.intro (HB.out.1.trans hb2) (HB.out.2.trans hk2)); clear hwr hp hb2 hk2)
        | (go_at_call 85; refine hcl.mono ?_; rintro e w3 ⟨rfl, hp, hb3, hk3⟩; have HP := Lib.hid hp; have HB3 := Lib.hid (And.intro (HB2.out.1.trans hb3) (HB2.out.2.trans hk3)); clear hcl hp hb3 hk3))
      go_roundw
      case rel => exact ⟨i + 1, by omega, by simp, Lib.hid (by rw [HJ.out]; simpa [List.append_assoc] using HP.out), HB3⟩
      case measure => simp [intOf]; omega
end Go.Proofs.YtfcceojfcmgmlaaGreatDoor.Fl

/-
  Where brackets must be.
-/
namespace Go.Proofs.YtfcceojfcmgmlaaGreatDoor.Fl
open Go.RowKit Go.Shelf

def keyB (l : List UInt8) : Bool := Lib.hasSuffix l [58]
def opB (l : List UInt8) : Bool := arityL (mkB l) == 1 && !keyB l
/-- does such a node stand in brackets? -/
def braB (x : Nd) (tight : Bool) : Bool := if x.kd = 6 then true else if x.kd = 8 then true else if x.kd = 7 then keyB x.nm || (tight && opB x.nm) else false
theorem isKey_any (l : List UInt8) (w : World) (hs : l.length ≤ 16777216) :
    Calls Tryz.prog 165 #[.string (mkB l)] w fun e w' => e = .returned (.bool (keyB l)) ∧ Below w.heap.size w w' := by
  have h := Tryz.strings_HasSuffix (mkB l) ⟨#[58]⟩ w (by rw [mk_sz]; omega)
  have e1 : Lib.hasSuffix (mkB l).data.toList (⟨#[58]⟩ : ByteArray).data.toList = keyB l := by simp [keyB]
  rw [e1] at h
  go_enter Tryz.func165, Tryz.ntmps165
  go_wp2_with (go_at_call 177; refine h.mono ?_; rintro e w' ⟨rfl, rfl⟩)
  go_ret
  exact ⟨rfl, Below.refl _ _⟩
theorem isOp_any (l : List UInt8) (w : World) (hs : l.length ≤ 16777216) :
    Calls Tryz.prog 151 #[.string (mkB l)] w fun e w' => e = .returned (.bool (opB l)) ∧ Below w.heap.size w w' := by
  have ha := arity_any (mkB l) w (by rw [mk_sz]; exact hs)
  have HKw := Lib.hid (fun (w' : World) => isKey_any l w' hs)
  obtain ⟨r, hr⟩ : ∃ r, opB l = r := ⟨_, rfl⟩
  rw [hr]
  have HR := Lib.hid hr
  unfold opB at HR
  clear hr
  generalize arityL (mkB l) = ar at *
  go_enter Tryz.func151, Tryz.ntmps151
  cases c1 : (ar == 1)
  · have HE := Lib.hid (show r = false from by rw [← HR.out]; simp [c1])
    go_wp2_with (go_at_call 49; refine ha.mono ?_; rintro e w2 ⟨rfl, hb2⟩; have HB2 := Lib.hid hb2; clear ha hb2)
    go_ret
    exact ⟨by rw [HE.out]; rfl, HB2.out⟩
  · have HE := Lib.hid (show r = !keyB l from by rw [← HR.out]; simp [c1])
    go_wp2_with (first
      | (go_at_call 49; refine ha.mono ?_; rintro e w2 ⟨rfl, hb2⟩; have HB2 := Lib.hid hb2; clear ha hb2)
      | (go_at_call 165; refine (HKw.out _).mono ?_; rintro e w3 ⟨rfl, hb3⟩; have HB3 := Lib.hid (HB2.out.trans (hb3.mono HB2.out.size)); clear hb3))
    go_ret
    exact ⟨by rw [HE.out]; rfl, HB3.out⟩
set_option maxRecDepth 100000 in
set_option maxHeartbeats 4000000 in
theorem bra_any (x : Nd) (tight : Bool) (Ak : Option Addr) (ck : Nat) (An : Option Addr) (cn : Nat) (w : World) (hs : x.nm.length ≤ 16777216) :
    Calls Tryz.prog 150 #[.agg #[.int .i64 x.kd, .string (mkB x.nm), .int .i64 x.nu, .slice Ak x.kids.length ck, .slice An x.ns.length cn, .int .i64 x.at_], .bool tight] w fun e w' => e = .returned (.bool (braB x tight)) ∧ Below w.heap.size w w' := by
  obtain ⟨W1, hW1⟩ : ∃ W, w.alloc (.cells #[.int .i64 x.kd, .string (mkB x.nm), .int .i64 x.nu, .slice Ak x.kids.length ck, .slice An x.ns.length cn, .int .i64 x.at_] 47) = W := ⟨_, rfl⟩
  obtain ⟨X, hX⟩ : ∃ X, w.heap.size = X := ⟨_, rfl⟩
  have hb1 : Below w.heap.size w W1 := by rw [← hW1]; exact (Below.refl _ _).alloc (Nat.le_refl _) _
  have hx1 : W1.heap[X]? = some (.cells #[.int .i64 x.kd, .string (mkB x.nm), .int .i64 x.nu, .slice Ak x.kids.length ck, .slice An x.ns.length cn, .int .i64 x.at_] 47 (0, 0)) := by
    rw [← hW1, ← hX]; exact heap_alloc_new w _
  have HB1 := Lib.hid hb1
  obtain ⟨r, hr⟩ : ∃ r, braB x tight = r := ⟨_, rfl⟩
  rw [hr]
  have HR := Lib.hid hr
  clear hr
  have HKw := Lib.hid (fun (w' : World) => isKey_any x.nm w' hs)
  have HOp := Lib.hid (fun (w' : World) => isOp_any x.nm w' hs)
  unfold braB at HR
  go_enter Tryz.func150, Tryz.ntmps150
  go_upto_region 1 with fail
  try simp only [hW1, hX]
  clear hW1 hX hb1
  have f1 := cells6T hx1
  have l1 := lt_of_blk hx1
  by_cases h6 : x.kd = 6
  · have HE := Lib.hid (show r = true from by rw [← HR.out]; simp [h6])
    go_wp2_with fail
    all_goals go_ret
    all_goals exact ⟨by rw [HE.out]; rfl, HB1.out⟩
  by_cases h8 : x.kd = 8
  · have HE := Lib.hid (show r = true from by rw [← HR.out]; simp [h8])
    go_wp2_with fail
    all_goals go_ret
    all_goals exact ⟨by rw [HE.out]; rfl, HB1.out⟩
  by_cases h7 : x.kd = 7
  · cases k1 : keyB x.nm
    · cases tight
      · have HE := Lib.hid (show r = false from by rw [← HR.out]; simp [h7, k1])
        go_wp2_with (go_at_call 165; refine (HKw.out _).mono ?_; rintro e w2 ⟨rfl, hb2⟩; replace HB1 := Lib.hid (HB1.out.trans (hb2.mono HB1.out.size)); replace hx1 := (hb2.block _ l1).trans hx1; replace f1 := cells6T hx1; replace l1 := lt_of_blk hx1; clear hb2)
        all_goals go_ret
        all_goals exact ⟨by rw [HE.out]; rfl, HB1.out⟩
      · have HE := Lib.hid (show r = opB x.nm from by rw [← HR.out]; simp [h7, k1])
        go_wp2_with (first
          | (go_at_call 165; refine (HKw.out _).mono ?_; rintro e w2 ⟨rfl, hb2⟩; replace HB1 := Lib.hid (HB1.out.trans (hb2.mono HB1.out.size)); replace hx1 := (hb2.block _ l1).trans hx1; replace f1 := cells6T hx1; replace l1 := lt_of_blk hx1; clear hb2)
          | (go_at_call 151; refine (HOp.out _).mono ?_; rintro e w2 ⟨rfl, hb2⟩; replace HB1 := Lib.hid (HB1.out.trans (hb2.mono HB1.out.size)); replace hx1 := (hb2.block _ l1).trans hx1; replace f1 := cells6T hx1; replace l1 := lt_of_blk hx1; clear hb2)
          )
        all_goals go_ret
        all_goals exact ⟨by rw [HE.out]; rfl, HB1.out⟩
    · have HE := Lib.hid (show r = true from by rw [← HR.out]; simp [h7, k1])
      go_wp2_with (go_at_call 165; refine (HKw.out _).mono ?_; rintro e w2 ⟨rfl, hb2⟩; replace HB1 := Lib.hid (HB1.out.trans (hb2.mono HB1.out.size)); replace hx1 := (hb2.block _ l1).trans hx1; replace f1 := cells6T hx1; replace l1 := lt_of_blk hx1; clear hb2)
      all_goals go_ret
      all_goals exact ⟨by rw [HE.out]; rfl, HB1.out⟩
  have HE := Lib.hid (show r = false from by rw [← HR.out]; simp [h6, h8, h7])
  go_wp2_with fail
  all_goals go_ret
  all_goals exact ⟨by rw [HE.out]; rfl, HB1.out⟩
end Go.Proofs.YtfcceojfcmgmlaaGreatDoor.Fl

/-
  A text's parts, each with what ends it: strings.SplitAfter.
-/
namespace Go.Proofs.YtfcceojfcmgmlaaGreatDoor.Fl
open Go.RowKit Go.Shelf

/-- the parts of a name, each with its : -/
def spA : List UInt8 → List (List UInt8)
  | [] => [[]]
  | c :: l => if c = 58 then [c] :: spA l else match spA l with
    | p :: r => (c :: p) :: r
    | [] => [[c]]
theorem spA_len : ∀ l : List UInt8, (spA l).length = l.count 58 + 1
  | [] => rfl
  | c :: l => by
    have ih := spA_len l
    rw [spA]
    by_cases h : c = 58
    · rw [if_pos h, List.length_cons, ih, h, List.count_cons_self]
    · rw [if_neg h, List.count_cons_of_ne h]
      cases e : spA l with
      | nil => rw [e] at ih; simp at ih
      | cons p r => rw [e] at ih; exact ih
theorem spA_none : ∀ {l : List UInt8}, Lib.indexByte l 58 = -1 → spA l = [l]
  | [], _ => rfl
  | c :: l, h => by
    unfold Lib.indexByte at h
    split at h
    · cases h
    · rename_i hb
      split at h
      · rename_i hl
        rw [spA, if_neg (fun e => hb (by simp [e])), spA_none (beq_iff_eq.1 hl)]
      · have := Lib.indexByte_ge l 58
        omega
theorem spA_some : ∀ {l : List UInt8} {j : Nat}, Lib.indexByte l 58 = (j : Int) → spA l = l.take (j + 1) :: spA (l.drop (j + 1))
  | [], j, h => by simp [Lib.indexByte] at h
  | c :: l, j, h => by
    unfold Lib.indexByte at h
    split at h
    · rename_i hb
      have e : c = 58 := by simpa using hb
      have ej : j = 0 := by omega
      subst ej
      rw [spA, if_pos e]; rfl
    · rename_i hb
      split at h
      · omega
      · rename_i hl
        have hge := Lib.indexByte_ge l 58
        have hne : Lib.indexByte l 58 ≠ -1 := fun e => hl (beq_iff_eq.2 e)
        obtain ⟨k, rfl⟩ : ∃ k, j = k + 1 := ⟨j - 1, by omega⟩
        rw [spA, if_neg (fun e => hb (by simp [e])), spA_some (j := k) (by omega)]
        rfl
theorem spA_one {l : List UInt8} (h : (spA l).length = 1) : spA l = [l] := by
  rw [spA_len] at h
  have h0 : l.count 58 = 0 := by omega
  rcases Lib.indexByte_ge l 58 with _
  by_cases e : Lib.indexByte l 58 = -1
  · exact spA_none e
  · have hge := Lib.indexByte_ge l 58
    obtain ⟨j, hj⟩ : ∃ j : Nat, Lib.indexByte l 58 = (j : Int) := ⟨(Lib.indexByte l 58).toNat, by omega⟩
    have := (Lib.indexByte_some hj).1
    have hm := List.mem_of_getElem? this
    exact absurd hm (List.count_eq_zero.1 h0)
theorem strinfo10 : (Tryz.prog.info? 9).map (fun i => (i.zero, i.size, i.bytes)) = some (some (.string ⟨#[]⟩), 1, 16) := by kernel_rfl
theorem made_strs (m : Nat) : madeCells #[Value.string ⟨#[]⟩] m = (List.replicate m (Value.string ⟨#[]⟩)).toArray := by
  apply Array.ext
  · rw [size_madeCells]; simp
  · intro i h1 h2
    have := List.getElem_toArray (xs := List.replicate m (Value.string ⟨#[]⟩)) (i := i) h2
    rw [this, List.getElem_replicate]
    simp [madeCells, Nat.mod_one]
theorem make_strs (w : World) (n : Nat) (h : n ≤ 16777217) :
    (Instr.makeSlice 22 (.int .i64 (n : Int)) (.int .i64 (n : Int))).run Tryz.prog w = .ok (.slice (some ⟨w.heap.size, 0, none⟩) n n) (w.alloc (.cells (List.replicate n (Value.string ⟨#[]⟩)).toArray 9)) := by
  have hmk := run_make_row' (P := Tryz.prog) 22 9 (.string ⟨#[]⟩) 16 Tryz.underlying22 strinfo10 rfl .i64 .i64 n (by omega) (by omega) w
  rw [hmk, made_strs]
theorem wpList_make_strs (w : World) {ops : Array Oper} {rest : List Oper} {o : Oper} {a : Act} {Q : Exit → Act → World → Prop} (hg : o.guard = none) (l c : Operand) (hop : o.op = Op.makeSlice 22 l c)
    (n : Nat) {z : Int} (hz : z = (n : Int)) (hl : a.eval l = .int .i64 z) (hc : a.eval c = .int .i64 z) (h : n ≤ 16777217)
    (hK : ∀ w', Hid (w'.heap[w.heap.size]? = some (.cells (List.replicate n (Value.string ⟨#[]⟩)).toArray 9 (0, 0))) → Below w.heap.size w w' → wpList Tryz.prog ops Q rest (a.put o.dst (.slice (some ⟨w.heap.size, 0, none⟩) n n)) w') :
    wpList Tryz.prog ops Q (o :: rest) a w := by
  subst hz
  refine wpList_plain hg fun K hK' => ?_
  unfold Oper.wp
  simp [execOp, hop, hl, hc, make_strs w n h, Result.andThen]
  exact hK' _ _ (hK _ (Lib.hid (heap_alloc_new w _)) ((Below.refl _ _).alloc (Nat.le_refl _) _))
theorem row_set (done : List (List UInt8)) (t : List UInt8) (k : Nat) : ((cs_ done ++ List.replicate (k + 1) (Value.string ⟨#[]⟩)).toArray.setIfInBounds done.length (.string (mkB t))) = (cs_ (done ++ [t]) ++ List.replicate k (Value.string ⟨#[]⟩)).toArray := by
  rw [List.setIfInBounds_toArray]
  congr 1
  rw [List.set_append_right _ _ (by simp [cs_])]
  simp [cs_, List.replicate_succ]
set_option maxRecDepth 100000 in
set_option maxHeartbeats 8000000 in
theorem genSplit_any (s : ByteArray) (w : World) (hs : s.size ≤ 16777216) :
    Calls Tryz.prog 103 #[.string s, .string ⟨#[58]⟩, .int .i64 1, .int .i64 (-1)] w fun e w' => ∃ g, e = .returned (.slice (some ⟨g, 0, none⟩) (spA (sb s)).length (spA (sb s)).length) ∧ w'.heap[g]? = some (.cells (cs_ (spA (sb s))).toArray 9 (0, 0)) ∧ w.heap.size ≤ g ∧ Below w.heap.size w w' := by
  obtain ⟨n, hn⟩ : ∃ n, (sb s).count 58 = n := ⟨_, rfl⟩
  have hcl : n ≤ s.size := by rw [← hn, ← sb_len s]; exact List.count_le_length
  have hcn := fun w' => Tryz.strings_Count_one s 58 w'
  have e0 : Lib.countByte s.data.toList 58 = n := hn
  simp only [e0] at hcn
  have hlen := spA_len (sb s)
  rw [hn] at hlen
  obtain ⟨G, hG⟩ : ∃ G, w.heap.size = G := ⟨_, rfl⟩
  go_enter Tryz.func103, Tryz.ntmps103
  have hmin : min ((n : Int) + 1) ((s.size : Int) + 1) = (n : Int) + 1 := by omega
  go_wp2_with (first
    | (go_at_call 123; refine (hcn _).mono ?_; rintro e w2 ⟨rfl, hw2⟩; rw [hw2]; clear hw2)
    | (refine wpList_make_strs _ rfl _ _ rfl (n + 1) (by push_cast; rfl) rfl rfl (by omega) ?_; intro w2 HG hb2; have HB2 := Lib.hid hb2; clear hb2))
  have hgw := lt_of_blk HG.out
  have HS := Lib.hid hlen
  have HI : Hid (∀ (σ : ByteArray) (w' : World), Calls Tryz.prog 119 #[.string σ, .string ⟨#[58]⟩] w' fun e w2 => e = .returned (.int .i64 (Lib.indexByte (sb σ) 58)) ∧ w2 = w') := Lib.hid (fun σ w' => Tryz.strings_Index_one σ 58 w')
  rw [hG] at HG hgw
  have HGw := Lib.hid hG
  clear hcn hlen hmin hn
  go_loopw [0, 10, 11] (fun u v _ wr => ∃ (i : Nat) (σ : ByteArray) (done : List (List UInt8)), i ≤ n ∧ u = .string σ ∧ v = .int .i64 (i : Int) ∧ σ.size ≤ s.size ∧ Hid (spA (sb s) = done ++ spA (sb σ) ∧ done.length = i) ∧
    Hid (wr.heap[G]? = some (.cells (cs_ done ++ List.replicate (n + 1 - i) (Value.string ⟨#[]⟩)).toArray 9 (0, 0)) ∧ Below w.heap.size w wr)) (fun _ v _ _ => n - (intOf v).toNat)
  case atStart => exact ⟨0, s, [], Nat.zero_le _, rfl, rfl, Nat.le_refl _, Lib.hid ⟨rfl, rfl⟩, Lib.hid ⟨by simpa [cs_] using HG.out, HB2.out⟩⟩
  case round =>
    obtain ⟨i, σ, done, hi, rfl, rfl, hσ, HD, HW⟩ := hrel
    have hlen := HS.out
    rw [HD.out.1, List.length_append, HD.out.2] at hlen
    have hlr := spA_len (sb σ)
    have f0 : wr.frozen? ⟨G, i, none⟩ = false := frozen_of_row _ _ _ _ _ HW.out.1
    have hgr := lt_of_blk HW.out.1
    have hsz : (cs_ done ++ List.replicate (n + 1 - i) (Value.string ⟨#[]⟩)).length = n + 1 := by simp [cs_, HD.out.2]; omega
    have c0 : ∃ v, wr.cell? ⟨G, i, none⟩ = some v := by
      rw [Lib.cell_of_heap HW.out.1]
      exact ⟨_, by rw [List.getElem?_toArray, List.getElem?_eq_getElem (by rw [hsz]; omega)]⟩
    obtain ⟨v0, c0⟩ := c0
    by_cases hlast : (spA (sb σ)).length = 1
    · have hin : i = n := by omega
      subst hin
      have h1 := spA_one hlast
      have hq : ¬ ((i : Int) < (i : Int)) := by omega
      have hst := Lib.hid (heap_setCell_same wr G i _ _ (.string σ) HW.out.1)
      have hbs := Lib.hid (HW.out.2.setCell (p := ⟨G, i, none⟩) (by rw [← HGw.out]; exact Nat.le_refl _) (.string σ))
      have HE := Lib.hid (show ((cs_ done ++ List.replicate (i + 1 - i) (Value.string ⟨#[]⟩)).toArray.setIfInBounds i (.string σ)) = (cs_ (spA (sb s))).toArray by
        have e1 : i + 1 - i = 0 + 1 := by omega
        have := row_set done (sb σ) 0
        rw [HD.out.2] at this
        rw [e1, HD.out.1, h1, show (Value.string σ) = .string (mkB (sb σ)) by rw [show mkB (sb σ) = σ from mk_sb σ], this]
        simp)
      have HL := Lib.hid (show (spA (sb s)).length = i + 1 from HS.out)
      go_wp2_with fail
      go_ret
      exact ⟨G, by rw [HL.out]; rfl, by rw [← HE.out]; exact hst.out, Nat.le_refl _, by have := hbs.out; rwa [HGw.out] at this⟩
    · have hm : i < n := by omega
      have hq : (i : Int) < (n : Int) := by omega
      have hne : Lib.indexByte (sb σ) 58 ≠ -1 := fun e => hlast (by rw [spA_none e]; rfl)
      have hge := Lib.indexByte_ge (sb σ) 58
      obtain ⟨j, hj⟩ : ∃ j : Nat, Lib.indexByte (sb σ) 58 = (j : Int) := ⟨(Lib.indexByte (sb σ) 58).toNat, by omega⟩
      have hsp := spA_some hj
      have hjl : j < σ.size := by
        have := (Lib.indexByte_some hj).1
        have := (List.getElem?_eq_some_iff.1 this).1
        rwa [sb_len] at this
      have hix := HI.out σ wr
      rw [hj] at hix
      obtain ⟨k, hk⟩ : ∃ k, n + 1 - i = k + 1 := ⟨n - i, by omega⟩
      have hk2 : n + 1 - (i + 1) = k := by omega
      have hj0 : ¬ (j : Int) < 0 := by omega
      have hj1 : (j : Int) + 1 ≤ (σ.size : Int) := by omega
      have HE := Lib.hid (show ((cs_ done ++ List.replicate (n + 1 - i) (Value.string ⟨#[]⟩)).toArray.setIfInBounds i (.string (σ.extract 0 (j + 1)))) = (cs_ (done ++ [(sb σ).take (j + 1)]) ++ List.replicate (n + 1 - (i + 1)) (Value.string ⟨#[]⟩)).toArray by
        have := row_set done ((sb σ).take (j + 1)) k
        rw [HD.out.2] at this
        have e2 : mkB ((sb σ).take (j + 1)) = σ.extract 0 (j + 1) := by rw [show (sb σ).take (j + 1) = sb (σ.extract 0 (j + 1)) by rw [sb_extract, List.drop_zero]]
        rw [hk, hk2, ← e2, this])
      have HD2 := Lib.hid (show spA (sb s) = done ++ [(sb σ).take (j + 1)] ++ spA (sb (σ.extract (j + 1) σ.size)) by
        rw [HD.out.1, hsp, sb_tail, List.append_assoc, List.singleton_append])
      have hst := Lib.hid (heap_setCell_same wr G i _ _ (.string (σ.extract 0 (j + 1))) HW.out.1)
      have hbs := Lib.hid (HW.out.2.setCell (p := ⟨G, i, none⟩) (by rw [← HGw.out]; exact Nat.le_refl _) (.string (σ.extract 0 (j + 1))))
      have hdl := HD.out.2
      clear hlen hlr hsp hne hge hk hk2
      go_wp2_with (go_at_call 119; refine hix.mono ?_; rintro e w3 ⟨rfl, hw3⟩; rw [hw3]; clear hw3 hix)
      go_roundw
      case rel => exact ⟨i + 1, σ.extract (j + 1) σ.size, done ++ [(sb σ).take (j + 1)], by omega, by simp, by simp, by simp; omega, Lib.hid ⟨HD2.out, by rw [List.length_append, hdl]; rfl⟩, Lib.hid ⟨by rw [← HE.out]; exact hst.out, hbs.out⟩⟩
      case measure => simp [intOf]; omega
theorem splitAfter_any (s : ByteArray) (w : World) (hs : s.size ≤ 16777216) :
    Calls Tryz.prog 79 #[.string s, .string ⟨#[58]⟩] w fun e w' => ∃ g, e = .returned (.slice (some ⟨g, 0, none⟩) (spA (sb s)).length (spA (sb s)).length) ∧ w'.heap[g]? = some (.cells (cs_ (spA (sb s))).toArray 9 (0, 0)) ∧ w.heap.size ≤ g ∧ Below w.heap.size w w' := by
  have h := genSplit_any s w hs
  go_enter Tryz.func79, Tryz.ntmps79
  go_wp2_with (go_at_call 103; refine h.mono ?_; rintro e w2 ⟨g, rfl, hg, hgw, hb2⟩; have HG := Lib.hid hg; have HB2 := Lib.hid hb2; clear hg hb2 h)
  go_ret
  exact ⟨g, rfl, HG.out, hgw, HB2.out⟩
end Go.Proofs.YtfcceojfcmgmlaaGreatDoor.Fl

/-
  A message's text: its parts, and what is with each.
-/
namespace Go.Proofs.YtfcceojfcmgmlaaGreatDoor.Fl
open Go.RowKit Go.Shelf

set_option maxRecDepth 100000 in
set_option maxHeartbeats 8000000 in
theorem msg1_sent (q0 q1 q2 : Nat) (P Q R g B b i : Nat) (ps : List (List UInt8)) (tx l : List UInt8) (w : World) (h : PrIs w B b l) (hB : B ≤ w.heap.size) (hi : i < ps.length)
    (hP : w.heap[P]? = some (.cells #[.pointer (some ⟨b, 0, none⟩)] 63 (0, 0))) (hQ : w.heap[Q]? = some (.cells #[.slice (some ⟨g, 0, none⟩) ps.length ps.length] 22 (0, 0)))
    (hR : w.heap[R]? = some (.cells #[.func (.func 152) #[] #[.pointer (some ⟨q0, 0, none⟩), .pointer (some ⟨q1, 0, none⟩), .pointer (some ⟨q2, 0, none⟩)]] 92 (0, 0))) (hg : w.heap[g]? = some (.cells (cs_ ps).toArray 9 (0, 0))) (hl : l.length + (ps[i].length + 1) ≤ 1000000000)
    (HF : ∀ w' : World, Below B w w' → KpP w w' → PrIs w' B b (l ++ (ps[i] ++ [32])) → Calls Tryz.prog 152 #[.int .i64 (i : Int), .pointer (some ⟨q0, 0, none⟩), .pointer (some ⟨q1, 0, none⟩), .pointer (some ⟨q2, 0, none⟩)] w' (PrPost B b w' (l ++ (ps[i] ++ [32]) ++ tx))) :
    Calls Tryz.prog 81 #[.int .i64 (i : Int), .pointer (some ⟨P, 0, none⟩), .pointer (some ⟨Q, 0, none⟩), .pointer (some ⟨R, 0, none⟩)] w (PrPost B b w (l ++ (ps[i] ++ [32]) ++ tx)) := by
  have HF := Lib.hid HF
  have hcell : w.cell? ⟨g, i, none⟩ = some (.string (mkB ps[i])) := by
    rw [Lib.cell_of_heap hg]; simp [cs_, hi]
  generalize ps[i] = x at *
  obtain ⟨c0, _⟩ := cells1T hP
  obtain ⟨c1, _⟩ := cells1T hQ
  have lP := lt_of_blk hP
  have lQ := lt_of_blk hQ
  have lg := lt_of_blk hg
  have hii : (i : Int) < (ps.length : Int) := by omega
  have hcat : ¬ 9223372036854775807 < x.length + 1 := by omega
  have HS : Hid (w.drew.cell? ⟨P, 0, none⟩ = some (.pointer (some ⟨b, 0, none⟩)) ∧ w.drew.cell? ⟨Q, 0, none⟩ = some (.slice (some ⟨g, 0, none⟩) ps.length ps.length) ∧ w.drew.cell? ⟨g, i, none⟩ = some (.string (mkB x))) := Lib.hid ⟨c0, c1, hcell⟩
  have hwr := writeP_any B b l (mkB x ++ ⟨#[32]⟩) w.drew (PrIs.below h (Below.refl _ _).drew) (by rw [ByteArray.size_append, mk_sz]; show l.length + (x.length + 1) ≤ _; omega) hB
  have HR := Lib.hid hR
  have HSk : Hid (∀ w' : World, KpP w w' → w'.cell? ⟨P, 0, none⟩ = some (.pointer (some ⟨b, 0, none⟩)) ∧ w'.cell? ⟨Q, 0, none⟩ = some (.slice (some ⟨g, 0, none⟩) ps.length ps.length) ∧ w'.cell? ⟨g, i, none⟩ = some (.string (mkB x))) := Lib.hid (fun w' hk => by
    obtain ⟨d0, _⟩ := cells1T (hk.2 P _ _ _ hP (by decide) (by decide))
    obtain ⟨d1, _⟩ := cells1T (hk.2 Q _ _ _ hQ (by decide) (by decide))
    refine ⟨d0, d1, ?_⟩
    have hg' := hk.2 g _ _ _ hg (by decide) (by decide)
    rw [Lib.cell_of_heap hg'] 
    rw [Lib.cell_of_heap hg] at hcell
    exact hcell)
  have hbd : Below B w w.drew := (Below.refl _ _).drew
  have hkd : KpP w w.drew := ⟨Nat.le_refl _, fun k cs T fr hk _ _ => hk⟩
  have HD := Lib.hid (And.intro hbd hkd)
  clear hR hbd hkd h hg
  go_enter Tryz.func81, Tryz.ntmps81
  go_upto_region 0 with fail
  rename_i KK hKK
  have HKK := Lib.hid hKK
  clear hKK
  go_region_held3 (fun w' : World => w'.cell? ⟨P, 0, none⟩ = some (.pointer (some ⟨b, 0, none⟩)) ∧ w'.cell? ⟨Q, 0, none⟩ = some (.slice (some ⟨g, 0, none⟩) ps.length ps.length) ∧ w'.cell? ⟨g, i, none⟩ = some (.string (mkB x)))
    (first
      | exact HS.out
      | exact HSk.out _ HB2.out.2)
    (first
      | (go_at_call 61; refine hwr.mono ?_; rintro e w2 ⟨rfl, hp, hb2, hk2⟩; rw [show sb (mkB x ++ ⟨#[32]⟩) = x ++ [32] by rw [sb_append, sb_mkB]] at hp; have HP2 := Lib.hid hp; have HB2 := Lib.hid (And.intro (HD.out.1.trans hb2) (HD.out.2.trans hk2)); clear hwr hp hb2 hk2))
  all_goals (refine HKK.out _ _ ?_)
  all_goals (obtain ⟨r0, _⟩ := cells1T (HB2.out.2.2 R _ _ _ HR.out (by decide) (by decide)))
  all_goals (have hcl := HF.out _ HB2.out.1 HB2.out.2 HP2.out)
  all_goals (go_wp2_with (go_at_call 152; refine hcl.mono ?_; rintro e w3 ⟨rfl, hp, hb3, hk3⟩; have HP3 := Lib.hid hp; have HB3 := Lib.hid (And.intro (HB2.out.1.trans hb3) (HB2.out.2.trans hk3)); clear hcl hp hb3 hk3))
  all_goals go_end0
  all_goals exact ⟨rfl, HP3.out, HB3.out.1, HB3.out.2⟩
set_option maxRecDepth 100000 in
set_option maxHeartbeats 8000000 in
theorem msg1_meth (q0 q1 : Nat) (P Q R g B b i : Nat) (ps : List (List UInt8)) (tx l : List UInt8) (w : World) (h : PrIs w B b l) (hB : B ≤ w.heap.size) (hi : i < ps.length)
    (hP : w.heap[P]? = some (.cells #[.pointer (some ⟨b, 0, none⟩)] 63 (0, 0))) (hQ : w.heap[Q]? = some (.cells #[.slice (some ⟨g, 0, none⟩) ps.length ps.length] 22 (0, 0)))
    (hR : w.heap[R]? = some (.cells #[.func (.func 60) #[] #[.pointer (some ⟨q0, 0, none⟩), .pointer (some ⟨q1, 0, none⟩)]] 92 (0, 0))) (hg : w.heap[g]? = some (.cells (cs_ ps).toArray 9 (0, 0))) (hl : l.length + (ps[i].length + 1) ≤ 1000000000)
    (HF : ∀ w' : World, Below B w w' → KpP w w' → PrIs w' B b (l ++ (ps[i] ++ [32])) → Calls Tryz.prog 60 #[.int .i64 (i : Int), .pointer (some ⟨q0, 0, none⟩), .pointer (some ⟨q1, 0, none⟩)] w' (PrPost B b w' (l ++ (ps[i] ++ [32]) ++ tx))) :
    Calls Tryz.prog 81 #[.int .i64 (i : Int), .pointer (some ⟨P, 0, none⟩), .pointer (some ⟨Q, 0, none⟩), .pointer (some ⟨R, 0, none⟩)] w (PrPost B b w (l ++ (ps[i] ++ [32]) ++ tx)) := by
  have HF := Lib.hid HF
  have hcell : w.cell? ⟨g, i, none⟩ = some (.string (mkB ps[i])) := by
    rw [Lib.cell_of_heap hg]; simp [cs_, hi]
  generalize ps[i] = x at *
  obtain ⟨c0, _⟩ := cells1T hP
  obtain ⟨c1, _⟩ := cells1T hQ
  have lP := lt_of_blk hP
  have lQ := lt_of_blk hQ
  have lg := lt_of_blk hg
  have hii : (i : Int) < (ps.length : Int) := by omega
  have hcat : ¬ 9223372036854775807 < x.length + 1 := by omega
  have HS : Hid (w.drew.cell? ⟨P, 0, none⟩ = some (.pointer (some ⟨b, 0, none⟩)) ∧ w.drew.cell? ⟨Q, 0, none⟩ = some (.slice (some ⟨g, 0, none⟩) ps.length ps.length) ∧ w.drew.cell? ⟨g, i, none⟩ = some (.string (mkB x))) := Lib.hid ⟨c0, c1, hcell⟩
  have hwr := writeP_any B b l (mkB x ++ ⟨#[32]⟩) w.drew (PrIs.below h (Below.refl _ _).drew) (by rw [ByteArray.size_append, mk_sz]; show l.length + (x.length + 1) ≤ _; omega) hB
  have HR := Lib.hid hR
  have HSk : Hid (∀ w' : World, KpP w w' → w'.cell? ⟨P, 0, none⟩ = some (.pointer (some ⟨b, 0, none⟩)) ∧ w'.cell? ⟨Q, 0, none⟩ = some (.slice (some ⟨g, 0, none⟩) ps.length ps.length) ∧ w'.cell? ⟨g, i, none⟩ = some (.string (mkB x))) := Lib.hid (fun w' hk => by
    obtain ⟨d0, _⟩ := cells1T (hk.2 P _ _ _ hP (by decide) (by decide))
    obtain ⟨d1, _⟩ := cells1T (hk.2 Q _ _ _ hQ (by decide) (by decide))
    refine ⟨d0, d1, ?_⟩
    have hg' := hk.2 g _ _ _ hg (by decide) (by decide)
    rw [Lib.cell_of_heap hg'] 
    rw [Lib.cell_of_heap hg] at hcell
    exact hcell)
  have hbd : Below B w w.drew := (Below.refl _ _).drew
  have hkd : KpP w w.drew := ⟨Nat.le_refl _, fun k cs T fr hk _ _ => hk⟩
  have HD := Lib.hid (And.intro hbd hkd)
  clear hR hbd hkd h hg
  go_enter Tryz.func81, Tryz.ntmps81
  go_upto_region 0 with fail
  rename_i KK hKK
  have HKK := Lib.hid hKK
  clear hKK
  go_region_held3 (fun w' : World => w'.cell? ⟨P, 0, none⟩ = some (.pointer (some ⟨b, 0, none⟩)) ∧ w'.cell? ⟨Q, 0, none⟩ = some (.slice (some ⟨g, 0, none⟩) ps.length ps.length) ∧ w'.cell? ⟨g, i, none⟩ = some (.string (mkB x)))
    (first
      | exact HS.out
      | exact HSk.out _ HB2.out.2)
    (first
      | (go_at_call 61; refine hwr.mono ?_; rintro e w2 ⟨rfl, hp, hb2, hk2⟩; rw [show sb (mkB x ++ ⟨#[32]⟩) = x ++ [32] by rw [sb_append, sb_mkB]] at hp; have HP2 := Lib.hid hp; have HB2 := Lib.hid (And.intro (HD.out.1.trans hb2) (HD.out.2.trans hk2)); clear hwr hp hb2 hk2))
  all_goals (refine HKK.out _ _ ?_)
  all_goals (obtain ⟨r0, _⟩ := cells1T (HB2.out.2.2 R _ _ _ HR.out (by decide) (by decide)))
  all_goals (have hcl := HF.out _ HB2.out.1 HB2.out.2 HP2.out)
  all_goals (go_wp2_with (go_at_call 60; refine hcl.mono ?_; rintro e w3 ⟨rfl, hp, hb3, hk3⟩; have HP3 := Lib.hid hp; have HB3 := Lib.hid (And.intro (HB2.out.1.trans hb3) (HB2.out.2.trans hk3)); clear hcl hp hb3 hk3))
  all_goals go_end0
  all_goals exact ⟨rfl, HP3.out, HB3.out.1, HB3.out.2⟩
end Go.Proofs.YtfcceojfcmgmlaaGreatDoor.Fl

/-
  A message's text.
-/
namespace Go.Proofs.YtfcceojfcmgmlaaGreatDoor.Fl
open Go.RowKit Go.Shelf

/-- a part of a message's text -/
def prtT (nm : List UInt8) (t : Nat → List UInt8) (i : Nat) : List UInt8 := (spA nm).getD i [] ++ [32] ++ t i
set_option maxRecDepth 100000 in
set_option maxHeartbeats 8000000 in
theorem message_sent (q0 q1 q2 : Nat) (B b n : Nat) (nm : List UInt8) (t : Nat → List UInt8) (acc : List UInt8) (w : World) (h : PrIs w B b acc) (hB : B ≤ w.heap.size) (hnm : nm.length ≤ 16777216) (har : arityL (mkB nm) = (n : Int)) (hn0 : 0 < n) (hpl : n ≤ (spA nm).length)
    (hl : (acc ++ joinT [32] (prtT nm t) n).length ≤ 1000000000)
    (HF : ∀ (i : Nat) (w' : World) (l : List UInt8), i < n → Below B w w' → KpP w w' → PrIs w' B b l → l.length + (t i).length ≤ 1000000000 → Calls Tryz.prog 152 #[.int .i64 (i : Int), .pointer (some ⟨q0, 0, none⟩), .pointer (some ⟨q1, 0, none⟩), .pointer (some ⟨q2, 0, none⟩)] w' (PrPost B b w' (l ++ t i))) :
    Calls Tryz.prog 59 #[.pointer (some ⟨b, 0, none⟩), .string (mkB nm), .func (.func 152) #[] #[.pointer (some ⟨q0, 0, none⟩), .pointer (some ⟨q1, 0, none⟩), .pointer (some ⟨q2, 0, none⟩)]] w (PrPost B b w (acc ++ joinT [32] (prtT nm t) n)) := by
  obtain ⟨P, hP⟩ : ∃ P, w.heap.size = P := ⟨_, rfl⟩
  obtain ⟨W1, hW1⟩ : ∃ W, (w.alloc (.cells #[.pointer (some ⟨b, 0, none⟩)] 63)).alloc (.cells #[.func (.func 152) #[] #[.pointer (some ⟨q0, 0, none⟩), .pointer (some ⟨q1, 0, none⟩), .pointer (some ⟨q2, 0, none⟩)]] 92) = W := ⟨_, rfl⟩
  obtain ⟨qp, qr, hb1⟩ := boxes2T w _ _ W1 hW1
  rw [hP] at qp qr
  have HAr := Lib.hid (fun (w' : World) => arity_any (mkB nm) w' (by rw [mk_sz]; exact hnm))
  have HSp := Lib.hid (fun (w' : World) => splitAfter_any (mkB nm) w' (by rw [mk_sz]; exact hnm))
  rw [har] at HAr
  rw [sb_mkB] at HSp
  have HF := Lib.hid HF
  have HI := Lib.hid h
  have HB1 := Lib.hid hb1
  have HX := Lib.hid hP
  clear h har hb1
  go_enter Tryz.func59, Tryz.ntmps59
  go_upto_region 1 with fail
  have hP := HX.out
  try simp only [hW1]
  try simp only [hP]
  clear hW1 hP
  have hq0 : ¬ (n : Int) = 0 := by omega
  go_upto_region 5 with (first
    | (go_at_call 49; refine (HAr.out _).mono ?_; rintro e w2 ⟨rfl, hb2⟩; have HB2 := Lib.hid (HB1.out.trans (hb2.mono HB1.out.size)); have qp2 := (hb2.block P (lt_of_blk qp)).trans qp; have qr2 := (hb2.block (P + 1) (lt_of_blk qr)).trans qr; clear hb2 qp qr)
    | (go_at_call 79; refine (HSp.out _).mono ?_; rintro e w3 ⟨g, rfl, hg, hgw, hb3⟩; have HB3 := Lib.hid (HB2.out.trans (hb3.mono HB2.out.size)); have qp3 := (hb3.block P (lt_of_blk qp2)).trans qp2; have qr3 := (hb3.block (P + 1) (lt_of_blk qr2)).trans qr2; clear hb3 qp2 qr2))
  have hsz3 := HB3.out.size
  obtain ⟨Q, hQ⟩ : ∃ Q, w3.heap.size = Q := ⟨_, rfl⟩
  obtain ⟨W4, hW4⟩ : ∃ W, w3.alloc (.cells #[.slice (some ⟨g, 0, none⟩) (spA nm).length (spA nm).length] 22) = W := ⟨_, rfl⟩
  have hb4 : Below w3.heap.size w3 W4 := by rw [← hW4]; exact (Below.refl _ _).alloc (Nat.le_refl _) _
  have qq : W4.heap[Q]? = some (.cells #[.slice (some ⟨g, 0, none⟩) (spA nm).length (spA nm).length] 22 (0, 0)) := by rw [← hW4, ← hQ]; exact heap_alloc_new w3 _
  have hg4 := (hb4.block g (lt_of_blk hg)).trans hg
  have qp4 := (hb4.block P (lt_of_blk qp3)).trans qp3
  have qr4 := (hb4.block (P + 1) (lt_of_blk qr3)).trans qr3
  have HB4 := Lib.hid (HB3.out.trans (hb4.mono hsz3))
  have h4 : PrIs W4 B b acc := PrIs.below HI.out HB4.out
  have hB4 : B ≤ W4.heap.size := Nat.le_trans hB HB4.out.size
  have hcall := each_msg P Q (P + 1) B b n [32] (prtT nm t) acc W4 h4 hB4 (by rw [spA_len] at hpl; have := List.count_le_length (a := (58 : UInt8)) (l := nm); omega) hl
    (fun i w' l hi hb hk hp hlen => by
      have hi2 : i < (spA nm).length := by omega
      have e1 : prtT nm t i = (spA nm)[i] ++ [32] ++ t i := by unfold prtT; rw [List.getD_eq_getElem?_getD, List.getElem?_eq_getElem hi2]; rfl
      rw [e1, List.length_append, List.length_append] at hlen
      have hl1 : ([32] : List UInt8).length = 1 := rfl
      rw [e1, show l ++ ((spA nm)[i] ++ [32] ++ t i) = l ++ ((spA nm)[i] ++ [32]) ++ t i by simp]
      refine msg1_sent q0 q1 q2 P Q (P + 1) g B b i (spA nm) (t i) l w' hp (Nat.le_trans hB4 hb.size) hi2 (hk.2 P _ _ _ qp4 (by decide) (by decide)) (hk.2 Q _ _ _ qq (by decide) (by decide)) (hk.2 (P + 1) _ _ _ qr4 (by decide) (by decide)) (hk.2 g _ _ _ hg4 (by decide) (by decide)) (by omega) (fun w2 hb2 hk2 hp2 => ?_)
      exact HF.out i w2 _ hi (((HB4.out.mono hB).trans hb).trans hb2) (((KpP.of HB4.out).trans hk).trans hk2) hp2 (by rw [List.length_append, List.length_append]; omega))
  have f0 := (cells1T qp4).1
  have l0 := lt_of_blk qp4
  clear qp3 qr3
  try simp only [hW4]
  try simp only [hQ]
  go_wp2_with (go_at_call 80; refine hcall.mono ?_; rintro e w5 ⟨rfl, hp5, hb5, hk5⟩; have HP5 := Lib.hid hp5; have HB5 := Lib.hid (And.intro ((HB4.out.mono hB).trans hb5) ((KpP.of HB4.out).trans hk5)); clear hcall hp5 hb5 hk5)
  go_end0
  exact ⟨rfl, HP5.out, HB5.out.1, HB5.out.2⟩
set_option maxRecDepth 100000 in
set_option maxHeartbeats 8000000 in
theorem message_meth (q0 q1 : Nat) (B b n : Nat) (nm : List UInt8) (t : Nat → List UInt8) (acc : List UInt8) (w : World) (h : PrIs w B b acc) (hB : B ≤ w.heap.size) (hnm : nm.length ≤ 16777216) (har : arityL (mkB nm) = (n : Int)) (hn0 : 0 < n) (hpl : n ≤ (spA nm).length)
    (hl : (acc ++ joinT [32] (prtT nm t) n).length ≤ 1000000000)
    (HF : ∀ (i : Nat) (w' : World) (l : List UInt8), i < n → Below B w w' → KpP w w' → PrIs w' B b l → l.length + (t i).length ≤ 1000000000 → Calls Tryz.prog 60 #[.int .i64 (i : Int), .pointer (some ⟨q0, 0, none⟩), .pointer (some ⟨q1, 0, none⟩)] w' (PrPost B b w' (l ++ t i))) :
    Calls Tryz.prog 59 #[.pointer (some ⟨b, 0, none⟩), .string (mkB nm), .func (.func 60) #[] #[.pointer (some ⟨q0, 0, none⟩), .pointer (some ⟨q1, 0, none⟩)]] w (PrPost B b w (acc ++ joinT [32] (prtT nm t) n)) := by
  obtain ⟨P, hP⟩ : ∃ P, w.heap.size = P := ⟨_, rfl⟩
  obtain ⟨W1, hW1⟩ : ∃ W, (w.alloc (.cells #[.pointer (some ⟨b, 0, none⟩)] 63)).alloc (.cells #[.func (.func 60) #[] #[.pointer (some ⟨q0, 0, none⟩), .pointer (some ⟨q1, 0, none⟩)]] 92) = W := ⟨_, rfl⟩
  obtain ⟨qp, qr, hb1⟩ := boxes2T w _ _ W1 hW1
  rw [hP] at qp qr
  have HAr := Lib.hid (fun (w' : World) => arity_any (mkB nm) w' (by rw [mk_sz]; exact hnm))
  have HSp := Lib.hid (fun (w' : World) => splitAfter_any (mkB nm) w' (by rw [mk_sz]; exact hnm))
  rw [har] at HAr
  rw [sb_mkB] at HSp
  have HF := Lib.hid HF
  have HI := Lib.hid h
  have HB1 := Lib.hid hb1
  have HX := Lib.hid hP
  clear h har hb1
  go_enter Tryz.func59, Tryz.ntmps59
  go_upto_region 1 with fail
  have hP := HX.out
  try simp only [hW1]
  try simp only [hP]
  clear hW1 hP
  have hq0 : ¬ (n : Int) = 0 := by omega
  go_upto_region 5 with (first
    | (go_at_call 49; refine (HAr.out _).mono ?_; rintro e w2 ⟨rfl, hb2⟩; have HB2 := Lib.hid (HB1.out.trans (hb2.mono HB1.out.size)); have qp2 := (hb2.block P (lt_of_blk qp)).trans qp; have qr2 := (hb2.block (P + 1) (lt_of_blk qr)).trans qr; clear hb2 qp qr)
    | (go_at_call 79; refine (HSp.out _).mono ?_; rintro e w3 ⟨g, rfl, hg, hgw, hb3⟩; have HB3 := Lib.hid (HB2.out.trans (hb3.mono HB2.out.size)); have qp3 := (hb3.block P (lt_of_blk qp2)).trans qp2; have qr3 := (hb3.block (P + 1) (lt_of_blk qr2)).trans qr2; clear hb3 qp2 qr2))
  have hsz3 := HB3.out.size
  obtain ⟨Q, hQ⟩ : ∃ Q, w3.heap.size = Q := ⟨_, rfl⟩
  obtain ⟨W4, hW4⟩ : ∃ W, w3.alloc (.cells #[.slice (some ⟨g, 0, none⟩) (spA nm).length (spA nm).length] 22) = W := ⟨_, rfl⟩
  have hb4 : Below w3.heap.size w3 W4 := by rw [← hW4]; exact (Below.refl _ _).alloc (Nat.le_refl _) _
  have qq : W4.heap[Q]? = some (.cells #[.slice (some ⟨g, 0, none⟩) (spA nm).length (spA nm).length] 22 (0, 0)) := by rw [← hW4, ← hQ]; exact heap_alloc_new w3 _
  have hg4 := (hb4.block g (lt_of_blk hg)).trans hg
  have qp4 := (hb4.block P (lt_of_blk qp3)).trans qp3
  have qr4 := (hb4.block (P + 1) (lt_of_blk qr3)).trans qr3
  have HB4 := Lib.hid (HB3.out.trans (hb4.mono hsz3))
  have h4 : PrIs W4 B b acc := PrIs.below HI.out HB4.out
  have hB4 : B ≤ W4.heap.size := Nat.le_trans hB HB4.out.size
  have hcall := each_msg P Q (P + 1) B b n [32] (prtT nm t) acc W4 h4 hB4 (by rw [spA_len] at hpl; have := List.count_le_length (a := (58 : UInt8)) (l := nm); omega) hl
    (fun i w' l hi hb hk hp hlen => by
      have hi2 : i < (spA nm).length := by omega
      have e1 : prtT nm t i = (spA nm)[i] ++ [32] ++ t i := by unfold prtT; rw [List.getD_eq_getElem?_getD, List.getElem?_eq_getElem hi2]; rfl
      rw [e1, List.length_append, List.length_append] at hlen
      have hl1 : ([32] : List UInt8).length = 1 := rfl
      rw [e1, show l ++ ((spA nm)[i] ++ [32] ++ t i) = l ++ ((spA nm)[i] ++ [32]) ++ t i by simp]
      refine msg1_meth q0 q1 P Q (P + 1) g B b i (spA nm) (t i) l w' hp (Nat.le_trans hB4 hb.size) hi2 (hk.2 P _ _ _ qp4 (by decide) (by decide)) (hk.2 Q _ _ _ qq (by decide) (by decide)) (hk.2 (P + 1) _ _ _ qr4 (by decide) (by decide)) (hk.2 g _ _ _ hg4 (by decide) (by decide)) (by omega) (fun w2 hb2 hk2 hp2 => ?_)
      exact HF.out i w2 _ hi (((HB4.out.mono hB).trans hb).trans hb2) (((KpP.of HB4.out).trans hk).trans hk2) hp2 (by rw [List.length_append, List.length_append]; omega))
  have f0 := (cells1T qp4).1
  have l0 := lt_of_blk qp4
  clear qp3 qr3
  try simp only [hW4]
  try simp only [hQ]
  go_wp2_with (go_at_call 80; refine hcall.mono ?_; rintro e w5 ⟨rfl, hp5, hb5, hk5⟩; have HP5 := Lib.hid hp5; have HB5 := Lib.hid (And.intro ((HB4.out.mono hB).trans hb5) ((KpP.of HB4.out).trans hk5)); clear hcall hp5 hb5 hk5)
  go_end0
  exact ⟨rfl, HP5.out, HB5.out.1, HB5.out.2⟩
end Go.Proofs.YtfcceojfcmgmlaaGreatDoor.Fl

/-
  What a node's text is: the program's node.
-/
namespace Go.Proofs.YtfcceojfcmgmlaaGreatDoor.Fl
open Go.RowKit Go.Shelf

/-- the printer's node writes this of a node -/
def Prints (x : Nd) (t : List UInt8) : Prop := ∀ (B b : Nat) (acc : List UInt8) (v : Value) (w : World), NvAt w (Lo B) v x → PrIs w B b acc → B ≤ w.heap.size → (∀ w', Below B w w' → EnvL w') → acc.length + t.length ≤ 1000000000 →
  Calls Tryz.prog 86 #[.pointer (some ⟨b, 0, none⟩), v] w (PrPost B b w (acc ++ t))
set_option maxRecDepth 100000 in
set_option maxHeartbeats 8000000 in
theorem prints_var (x : Nd) (hk : x.kd = 5) : Prints x x.nm := by
  intro B b acc v w hv hp hB hE hl
  have Hk := Lib.hid hk
  clear hk
  obtain ⟨Ak, ck, An, cn, rfl, g1, g2, g3, g4, g5, g6, g7, g8⟩ := hv
  clear g1 g2 g3 g4 g5 g6 g7 g8 hE
  obtain ⟨W1, hW1⟩ : ∃ W, w.alloc (.cells #[.int .i64 x.kd, .string (mkB x.nm), .int .i64 x.nu, .slice Ak x.kids.length ck, .slice An x.ns.length cn, .int .i64 x.at_] 47) = W := ⟨_, rfl⟩
  obtain ⟨X, hX⟩ : ∃ X, w.heap.size = X := ⟨_, rfl⟩
  have hb1 : Below w.heap.size w W1 := by rw [← hW1]; exact (Below.refl _ _).alloc (Nat.le_refl _) _
  have hx1 : W1.heap[X]? = some (.cells #[.int .i64 x.kd, .string (mkB x.nm), .int .i64 x.nu, .slice Ak x.kids.length ck, .slice An x.ns.length cn, .int .i64 x.at_] 47 (0, 0)) := by
    rw [← hW1, ← hX]; exact heap_alloc_new w _
  have hp1 := PrIs.below hp hb1
  have hB1 : B ≤ W1.heap.size := Nat.le_trans hB hb1.size
  have HK1 := Lib.hid (And.intro (hb1.mono hB) (KpP.of hb1))
  have HB1 := Lib.hid hb1
  go_enter Tryz.func86, Tryz.ntmps86
  go_upto_region 1 with fail
  try simp only [hW1, hX]
  clear hW1 hX hb1
  have f1 := cells6T hx1
  have l1 := lt_of_blk hx1
  have hk := Hk.out
  rw [hk] at f1 hx1
  have hwr := writeP_any B b acc (mkB x.nm) W1.drew (PrIs.below hp1 (Below.refl _ _).drew) (by rw [mk_sz]; omega) hB1
  rw [sb_mkB] at hwr
  go_upto_region 12 with fail
  have HS : Hid (∀ w' : World, (∀ k, w'.heap[X]? = W1.heap[X]? ∨ k = 0) → w'.cell? ⟨X, 1, none⟩ = some (.string (mkB x.nm))) := Lib.hid (fun w' h => (cells6T ((h 1).resolve_right (by decide) |>.trans hx1)).2.1)
  go_region_held3 (fun w' : World => w'.cell? ⟨X, 1, none⟩ = some (.string (mkB x.nm)))
    (first
      | exact HS.out _ (fun _ => .inl rfl)
      | exact HS.out _ (fun _ => .inl ((HP2.out.2.2.2 X _ _ _ hx1 (by decide) (by decide)).trans hx1.symm)))
    (first
      | (go_at_call 61; refine hwr.mono ?_; rintro e w2 ⟨rfl, hp2, hb2, hk2⟩; have HP2 := Lib.hid (And.intro hp2 (And.intro hb2 (And.intro hk2.1 hk2.2))); clear hwr hp2 hb2 hk2))
  all_goals go_end0
  all_goals exact ⟨rfl, HP2.out.1, HK1.out.1.trans ((Below.refl B W1).drew.trans HP2.out.2.1), HK1.out.2.trans (KpP.trans ⟨Nat.le_refl _, fun k cs T fr hk _ _ => hk⟩ ⟨HP2.out.2.2.1, HP2.out.2.2.2⟩)⟩
set_option maxRecDepth 100000 in
set_option maxHeartbeats 8000000 in
theorem prints_int (x : Nd) (hk : x.kd = 1) (h0 : -9223372036854775808 ≤ x.nu) (h1 : x.nu ≤ 9223372036854775807) : Prints x (Lib.itoa x.nu) := by
  intro B b acc v w hv hp hB hE hl
  have Hk := Lib.hid hk
  clear hk
  obtain ⟨Ak, ck, An, cn, rfl, g1, g2, g3, g4, g5, g6, g7, g8⟩ := hv
  clear g1 g2 g3 g4 g5 g6 g7 g8
  obtain ⟨W1, hW1⟩ : ∃ W, w.alloc (.cells #[.int .i64 x.kd, .string (mkB x.nm), .int .i64 x.nu, .slice Ak x.kids.length ck, .slice An x.ns.length cn, .int .i64 x.at_] 47) = W := ⟨_, rfl⟩
  obtain ⟨X, hX⟩ : ∃ X, w.heap.size = X := ⟨_, rfl⟩
  have hb1 : Below w.heap.size w W1 := by rw [← hW1]; exact (Below.refl _ _).alloc (Nat.le_refl _) _
  have hx1 : W1.heap[X]? = some (.cells #[.int .i64 x.kd, .string (mkB x.nm), .int .i64 x.nu, .slice Ak x.kids.length ck, .slice An x.ns.length cn, .int .i64 x.at_] 47 (0, 0)) := by
    rw [← hW1, ← hX]; exact heap_alloc_new w _
  have hp1 := PrIs.below hp hb1
  have hB1 : B ≤ W1.heap.size := Nat.le_trans hB hb1.size
  have HK1 := Lib.hid (And.intro (hb1.mono hB) (KpP.of hb1))
  have HB1 := Lib.hid hb1
  go_enter Tryz.func86, Tryz.ntmps86
  go_upto_region 1 with fail
  try simp only [hW1, hX]
  clear hW1 hX hb1
  have f1 := cells6T hx1
  have l1 := lt_of_blk hx1
  have hk := Hk.out
  rw [hk] at f1 hx1
  have htx := textL_any x.nu W1.drew h0 h1 (hE _ (HK1.out.1.trans (Below.refl B W1).drew))
  have HWr := Lib.hid (fun (w' : World) (hb : Below W1.drew.heap.size W1.drew w') => writeP_any B b acc (mkB (Lib.itoa x.nu)) w' (PrIs.below (PrIs.below hp1 (Below.refl _ _).drew) hb) (by rw [mk_sz]; omega) (Nat.le_trans hB1 hb.size))
  rw [sb_mkB] at HWr
  have HX1 := Lib.hid hx1
  clear hE hp hp1 hx1
  go_upto_region 3 with fail
  have HS : Hid (∀ w' : World, w'.heap[X]? = W1.heap[X]? → w'.cell? ⟨X, 2, none⟩ = some (.int .i64 x.nu)) := Lib.hid (fun w' h => (cells6T (h.trans HX1.out)).2.2.1)
  go_region_held3 (fun w' : World => w'.cell? ⟨X, 2, none⟩ = some (.int .i64 x.nu))
    (first
      | exact HS.out _ rfl
      | exact HS.out _ HQ2.out
      | exact HS.out _ HQ3.out)
    (first
      | (go_at_call 62; refine htx.mono ?_; rintro e w2 ⟨rfl, hb2⟩; have HB2 := Lib.hid hb2; have HQ2 := Lib.hid (show w2.heap[X]? = W1.heap[X]? from hb2.block X l1); clear htx hb2)
      | (go_at_call 61; refine (HWr.out _ HB2.out).mono ?_; rintro e w3 ⟨rfl, hp3, hb3, hk3⟩; have HP3 := Lib.hid hp3; have HB3 := Lib.hid (And.intro hb3 hk3); have HQ3 := Lib.hid (show w3.heap[X]? = W1.heap[X]? from (hk3.2 X _ _ _ (HQ2.out.trans HX1.out) (by decide) (by decide)).trans HX1.out.symm); clear hp3 hb3 hk3))
  all_goals go_end0
  all_goals exact ⟨rfl, HP3.out, HK1.out.1.trans (((Below.refl B W1).drew.trans (HB2.out.mono hB1)).trans HB3.out.1), HK1.out.2.trans (KpP.trans ⟨Nat.le_refl _, fun k cs T fr hk _ _ => hk⟩ ((KpP.of HB2.out).trans HB3.out.2))⟩
set_option maxRecDepth 100000 in
set_option maxHeartbeats 8000000 in
theorem prints_ret (x : Nd) (hk : x.kd = 10) (hq : 0 < x.kids.length) (t : List UInt8) (hy : Prints x.kids[0] t) : Prints x (94 :: t) := by
  intro B b acc v w hv hp hB hE hl
  have Hk := Lib.hid hk
  clear hk
  obtain ⟨Ak, ck, An, cn, rfl, g1, g2, g3, g4, g5, g6, g7, g8⟩ := hv
  obtain ⟨b0, o, rfl, hb0, -, Ak0, ck0, An0, cn0, k0, n0⟩ := g6.first hq
  have hb0 : b0 < B := hb0
  have hb0w : b0 < w.heap.size := Nat.lt_of_lt_of_le hb0 hB
  have HK0 := Lib.hid (fun (w' : World) (hbb : Below B w w') => k0.below hbb hb0)
  have HN0 := Lib.hid (fun (w' : World) (hbb : Below B w w') => n0.below hbb (Nat.le_refl _))
  clear g1 g2 g3 g4 g5 g6 g7 g8 k0 n0
  have hy := Lib.hid hy
  have hll : acc.length + 1 + t.length ≤ 1000000000 := by simp at hl; omega
  generalize x.kids[0] = y at *
  obtain ⟨W1, hW1⟩ : ∃ W, w.alloc (.cells #[.int .i64 x.kd, .string (mkB x.nm), .int .i64 x.nu, .slice (some ⟨b0, o, none⟩) x.kids.length ck, .slice An x.ns.length cn, .int .i64 x.at_] 47) = W := ⟨_, rfl⟩
  obtain ⟨X, hX⟩ : ∃ X, w.heap.size = X := ⟨_, rfl⟩
  have hb1 : Below w.heap.size w W1 := by rw [← hW1]; exact (Below.refl _ _).alloc (Nat.le_refl _) _
  have hx1 : W1.heap[X]? = some (.cells #[.int .i64 x.kd, .string (mkB x.nm), .int .i64 x.nu, .slice (some ⟨b0, o, none⟩) x.kids.length ck, .slice An x.ns.length cn, .int .i64 x.at_] 47 (0, 0)) := by
    rw [← hW1, ← hX]; exact heap_alloc_new w _
  have hp1 := PrIs.below hp hb1
  have hB1 : B ≤ W1.heap.size := Nat.le_trans hB hb1.size
  have HK1 := Lib.hid (And.intro (hb1.mono hB) (KpP.of hb1))
  have HB1 := Lib.hid hb1
  go_enter Tryz.func86, Tryz.ntmps86
  go_upto_region 1 with fail
  try simp only [hW1, hX]
  clear hW1 hX hb1
  have f1 := cells6T hx1
  have l1 := lt_of_blk hx1
  have hk := Hk.out
  rw [hk] at f1 hx1
  have hwr := writeP_any B b acc (mkB [94]) W1 hp1 (by rw [mk_sz]; simp; omega) hB1
  rw [sb_mkB] at hwr
  have HE := Lib.hid hE
  clear hE hp hp1
  go_wp2_with (first
    | (go_at_call 61; refine hwr.mono ?_; rintro e w2 ⟨rfl, hp2, hb2, hk2⟩
       have hxx := hk2.2 X _ _ _ hx1 (by decide) (by decide)
       have f2 := cells6T hxx
       have l2 := lt_of_blk hxx
       have HB2 := Lib.hid (And.intro (HK1.out.1.trans hb2) (HK1.out.2.trans hk2))
       obtain ⟨d0, d1, d2, d3, d4, d5⟩ := HK0.out _ HB2.out.1
       have hcl := hy.out B b (acc ++ [94]) _ w2 (HN0.out _ HB2.out.1) hp2 (Nat.le_trans hB HB2.out.1.size) (fun w' hb => HE.out w' (HB2.out.1.trans hb)) (by rw [List.length_append]; exact hll)
       clear hwr hp2 hb2 hk2 hxx f1 l1)
    | (go_at_call 86; refine hcl.mono ?_; rintro e w3 ⟨rfl, hp3, hb3, hk3⟩; have HP3 := Lib.hid hp3; have HB3 := Lib.hid (And.intro (HB2.out.1.trans hb3) (HB2.out.2.trans hk3)); clear hcl hp3 hb3 hk3))
  all_goals go_end0
  all_goals exact ⟨rfl, by simpa using HP3.out, HB3.out.1, HB3.out.2⟩
end Go.Proofs.YtfcceojfcmgmlaaGreatDoor.Fl
