/-
  Events: strings.Builder at this dump; bytes quoted.
-/
import Derived.Test.YtlmelfakmllinaaEvA
import Derived.Test.YtlmelfakmllinaaShelf
import Derived.Lib.ConvBytes
import Derived.Deep.DeepCutAuto
import Derived.Deep.RegionWith
namespace Go.Proofs.Ytlmelfakmllinaa.Fl
open Go.RowKit

abbrev EbAt (w : World) (B b : Nat) (l : List UInt8) : Prop := Lib.BuilderAt 49 5 B b (.pointer (some ⟨b, 0, none⟩)) (Lib.byteCells l) w
abbrev EbIs (w : World) (B b : Nat) (l : List UInt8) : Prop := Lib.IsBuilder 49 5 B b (Lib.byteCells l) w
theorem EbAt.keep {w w' : World} {B b : Nat} {l : List UInt8} (h : EbAt w B b l) (hb : Below w.heap.size w w') : EbAt w' B b l := by
  obtain ⟨hB, v, hbk, hown, hne⟩ := h
  exact ⟨hB, v, (hb.block b (lt_of_blk hbk)).trans hbk, ⟨hown.1, hown.2.elim .inl fun ⟨g, cap, cur, hv, hbg, hg, r⟩ => .inr ⟨g, cap, cur, hv, hbg, (hb.block g (lt_of_blk hg)).trans hg, r⟩⟩, hne⟩
theorem EbIs.keep {w w' : World} {B b : Nat} {l : List UInt8} (h : EbIs w B b l) (hb : Below w.heap.size w w') : EbIs w' B b l := by
  rcases h with ⟨hB, v, hbk, hown, hne⟩ | h
  · exact .inl ⟨hB, v, (hb.block b (lt_of_blk hbk)).trans hbk, ⟨hown.1, hown.2.elim .inl fun ⟨g, cap, cur, hv, hbg, hg, r⟩ => .inr ⟨g, cap, cur, hv, hbg, (hb.block g (lt_of_blk hg)).trans hg, r⟩⟩, hne⟩
  · exact .inr (EbAt.keep h hb)
theorem EbIs.at_ {w : World} {B b : Nat} {l : List UInt8} (h : EbIs w B b l) : ∃ p, Lib.BuilderAt 49 5 B b p (Lib.byteCells l) w := by
  rcases h with h | h
  · exact ⟨_, h⟩
  · exact ⟨_, h⟩
set_option maxRecDepth 100000 in
theorem copyCheckE (b : Nat) (w : World) (h0 : w.cell? ⟨b, 0, none⟩ = some (.pointer (some ⟨b, 0, none⟩))) :
    Calls Try.prog 29 #[.pointer (some ⟨b, 0, none⟩)] w fun e w' => e = .returned (.tuple #[]) ∧ w = w' := by
  go_enter Try.func29, Try.ntmps29
  obtain ⟨j, hj⟩ := Option.isSome_iff_exists.1 (show (Try.prog.info? 49).isSome = true by kernel_rfl)
  go_wp2_with fail
  rw [Lib.run_neq_ptr_same w _ Try.underlying47 hj]
  go_wp2
  go_end0
  exact ⟨rfl, rfl⟩
set_option maxRecDepth 100000 in
set_option maxHeartbeats 1000000 in
theorem copyFreshE (b : Nat) (w : World) (h0 : w.cell? ⟨b, 0, none⟩ = some (.pointer none)) (hsh : w.shape? b = some (49, 2)) (hfz : w.frozen? ⟨b, 0, none⟩ = false) :
    Calls Try.prog 29 #[.pointer (some ⟨b, 0, none⟩)] w fun e w' => e = .returned (.tuple #[]) ∧ w' = w.setCell ⟨b, 0, none⟩ (.pointer (some ⟨b, 0, none⟩)) := by
  obtain ⟨j, hj, hjs⟩ := Option.map_eq_some_iff.1 (show (Try.prog.info? 49).map (·.size) = some 2 by kernel_rfl)
  have hl : liesAt Try.prog Try.prog.depth 49 (2 / Try.prog.cellsOf 49) 0 49 1 = true := by kernel_rfl
  go_enter Try.func29, Try.ntmps29
  go_wp2_with fail
  rw [Lib.run_to_unsafe w ⟨b, 0, none⟩ Try.underlying47 Try.underlying71 hj (by rw [hjs]; decide) hsh (Nat.zero_lt_succ 1)]
  simp only [Result.andThen]
  rw [Oper.upon_value]
  go_wp2_with fail
  rw [run_callFunc_extern Try.func36 (by kernel_rfl) (by kernel_rfl) (by kernel_rfl) (e := Extern.AbiNoEscape.same) (by kernel_rfl)]
  rw [Lib.run_noEscape]
  simp only [Result.andThen]
  rw [Oper.upon_value]
  go_wp2_with fail
  rw [Lib.run_from_unsafe w ⟨b, 0, none⟩ Try.underlying71 Try.underlying47 hj hsh hl]
  simp only [Result.andThen]
  rw [Oper.upon_value]
  go_wp2_with fail
  try (rw [Lib.run_neq_ptr_same _ _ Try.underlying47 hj]; go_wp2_with fail)
  go_end0
  exact ⟨rfl, rfl⟩
theorem checkE (B b : Nat) (l : List UInt8) (w : World) (h : EbIs w B b l) :
    Calls Try.prog 29 #[.pointer (some ⟨b, 0, none⟩)] w fun e w' => e = .returned (.tuple #[]) ∧ EbAt w' B b l ∧ Below B w w' ∧ w.heap.size ≤ w'.heap.size ∧ ∀ k, k ≠ b → w'.heap[k]? = w.heap[k]? := by
  rcases h with h | h
  · refine (copyFreshE b w h.cell0 h.shape h.frozen0).mono ?_
    rintro e w' ⟨rfl, rfl⟩
    exact ⟨rfl, h.used _, (Below.refl B w).setCell (p := ⟨b, 0, none⟩) h.1 _, by simp [World.setCell], fun k hk => Below.heap_setCell w ⟨b, 0, none⟩ _ k hk⟩
  · refine (copyCheckE b w h.cell0).mono ?_
    rintro e w' ⟨rfl, rfl⟩
    exact ⟨rfl, h, Below.refl B _, Nat.le_refl _, fun _ _ => rfl⟩
set_option maxRecDepth 100000 in
set_option maxHeartbeats 1000000 in
theorem writeRowE (B b : Nat) (l : List UInt8) (xs : List UInt8) (A : Option Addr) (c : Nat) (w : World) (h : EbIs w B b l) (hr : Rd w w.heap.size A (cb xs)) (hAb : ∀ ad, A = some ad → ad.block ≠ b) (hA : A = none → xs.length = 0) (hlen : l.length + xs.length ≤ 100000000) (hB : B ≤ w.heap.size) :
    Calls Try.prog 38 #[.pointer (some ⟨b, 0, none⟩), .slice A xs.length c] w fun e w' => e = .returned (.tuple #[.int .i64 (xs.length : Int), .nilIface]) ∧ EbAt w' B b (l ++ xs) ∧ Below B w w' := by
  obtain ⟨i0, hi, hz0, hz1, hz2⟩ := info_parts u8info
  have hlb0 := lt_of_blk (h.at_.choose_spec.2.choose_spec.1)
  have hcc := checkE B b l w h
  clear h
  go_enter Try.func38, Try.ntmps38
  go_wp2_with fail
  refine hcc.mono ?_
  rintro e w1 ⟨rfl, h, hb1, hsz1, hk1⟩
  clear hcc
  have HB1 := Lib.hid hb1
  have HK1 := Lib.hid hk1
  have hBw1 : B ≤ w1.heap.size := Nat.le_trans hB hsz1
  obtain ⟨hB0, v, hbk, hown, hne⟩ := h
  have c1 : w1.cell? ⟨b, 1, none⟩ = some v := by rw [Lib.cell_of_heap hbk]; rfl
  have hlb : (Lib.byteCells l).length = l.length := Lib.byteCells_length l
  rw [hlb] at hown
  have HOw := Lib.hid hown
  have HBk := Lib.hid hbk
  have HNe := Lib.hid hne
  clear hown hbk hne hlb hb1 hk1
  have hrd : Hid (Rd w1 w1.heap.size A (cb xs)) := Lib.hid (by
    rcases hr with h | ⟨g, off, rfl, hg, hc⟩
    · exact .inl h
    · refine .inr ⟨g, off, rfl, Nat.lt_of_lt_of_le hg hsz1, fun j u hj => ?_⟩
      have := hc j u hj
      unfold World.cell? at this ⊢
      rw [HK1.out g (hAb _ rfl)]
      exact this)
  clear hr
  go_wp2_with (at_builtin; refine wpList_append_rd (base := B) (size := 1) (bytes := 1) (n := l.length) (m := xs.length) (c := c) (v := v) (xs := cb l) (news := cb xs) rfl _ _ rfl Try.underlying32 hi hz0 hz1 hz2 rfl (by decide) rfl rfl HOw.out hrd.out (by rw [cb_len]; omega) hA (cb_oneCell xs) (by unfold maxLen; omega) (by omega) hBw1 ?_)
  intro v' w2 happ
  obtain ⟨A', c', rfl, _, _⟩ := happ.slice
  have hlt := lt_of_blk HBk.out
  have hgrow := happ.grown
  have hb2 : w2.heap[b]? = some (.cells #[.pointer (some ⟨b, 0, none⟩), v] 49 (0, 0)) := (hgrow.block b hlt (fun e => HNe.out e.symm)).trans HBk.out
  have d0 : w2.cell? ⟨b, 0, none⟩ = some (.pointer (some ⟨b, 0, none⟩)) := by rw [Lib.cell_of_heap hb2]; rfl
  have d1 : w2.cell? ⟨b, 1, none⟩ = some v := by rw [Lib.cell_of_heap hb2]; rfl
  have f1 : w2.frozen? ⟨b, 1, none⟩ = false := Lib.frozen_of_heap hb2 1
  have hlt2 := lt_of_blk hb2
  have HO2 := Lib.hid happ.own
  have HG2 := Lib.hid hgrow
  have HB2 := Lib.hid hb2
  clear happ hgrow hb2
  go_wp2_with fail
  go_ret2
  refine ⟨rfl, ?_, ?_⟩
  · have h9 := Lib.BuilderAt.put (T := 49) (e := 5) hB0 HB2.out (bs' := Lib.byteCells (l ++ xs)) (by have := HO2.out; rw [Lib.byteCells_length, List.length_append]; rw [← cb_append] at this; exact this) (by decide)
    exact h9
  · exact HB1.out.trans (((Below.refl B w1).grown HG2.out hBw1 (fun k hk => (HOw.out.lt k hk).1)).setCell (p := ⟨b, 1, none⟩) hB0 _)
set_option maxRecDepth 100000 in
set_option maxHeartbeats 1000000 in
theorem writeByteE (B b : Nat) (l : List UInt8) (c : UInt8) (w : World) (h : EbIs w B b l) (hlen : l.length + 1 ≤ 100000000) (hB : B ≤ w.heap.size) :
    Calls Try.prog 22 #[.pointer (some ⟨b, 0, none⟩), .int .u8 (c.toNat : Int)] w fun e w' => e = .returned .nilIface ∧ EbAt w' B b (l ++ [c]) ∧ Below B w w' := by
  obtain ⟨i0, hi, hz0, hz1, hz2⟩ := info_parts u8info
  have hlb0 := lt_of_blk (h.at_.choose_spec.2.choose_spec.1)
  have hcc := checkE B b l w h
  clear h
  go_enter Try.func22, Try.ntmps22
  go_wp2_with fail
  refine hcc.mono ?_
  rintro e w1 ⟨rfl, h, hb1, hsz1, hk1⟩
  clear hcc
  have HB1 := Lib.hid hb1
  have HK1 := Lib.hid hk1
  have hBw1 : B ≤ w1.heap.size := Nat.le_trans hB hsz1
  obtain ⟨hB0, v, hbk, hown, hne⟩ := h
  have c1 : w1.cell? ⟨b, 1, none⟩ = some v := by rw [Lib.cell_of_heap hbk]; rfl
  have hlb : (Lib.byteCells l).length = l.length := Lib.byteCells_length l
  rw [hlb] at hown
  have HOw := Lib.hid hown
  have HBk := Lib.hid hbk
  have HNe := Lib.hid hne
  clear hown hbk hne hlb hb1 hk1
  have hz := c.toNat_lt
  have hw3 := heap_alloc_new w1 (.cells #[.int .u8 (c.toNat : Int)] 5)
  have hba : Below w1.heap.size w1 (w1.alloc (.cells #[.int .u8 (c.toNat : Int)] 5)) := (Below.refl _ _).alloc (Nat.le_refl _) _
  have HBa : Hid ((w1.alloc (.cells #[.int .u8 (c.toNat : Int)] 5)).heap[b]? = some (.cells #[.pointer (some ⟨b, 0, none⟩), v] 49 (0, 0))) := Lib.hid ((hba.block b (lt_of_blk HBk.out)).trans HBk.out)
  have hra : Rd (w1.alloc (.cells #[.int .u8 (c.toNat : Int)] 5)) (w1.alloc (.cells #[.int .u8 (c.toNat : Int)] 5)).heap.size (some ⟨w1.heap.size, 0, none⟩) (cb [c]) := .inr ⟨w1.heap.size, 0, rfl, lt_of_blk hw3, fun j u hj => by
    rw [Nat.zero_add]
    rcases j with _ | j
    · exact (cell_of_row _ _ _ _ _ _ hw3).trans hj
    · simp [cb] at hj⟩
  have HOa := World.ownsRow.alloc HOw.out (.cells #[.int .u8 (c.toNat : Int)] 5)
  have HBl := Lib.hid hba
  clear hba hw3
  go_wp2_with (at_builtin; refine wpList_append_rd (base := B) (size := 1) (bytes := 1) (n := l.length) (m := 1) (c := 1) (v := v) (xs := cb l) (news := cb [c]) rfl _ _ rfl Try.underlying32 hi hz0 hz1 hz2 rfl (by decide) rfl rfl HOa hra (by rw [cb_len]; rfl) (fun h => by cases h) (cb_oneCell [c]) (by unfold maxLen; omega) (by omega) (Nat.le_trans hBw1 HBl.out.size) ?_)
  intro v' w2 happ
  obtain ⟨A', c', rfl, _, _⟩ := happ.slice
  have hlt := lt_of_blk HBk.out
  have hgrow := happ.grown
  have hb2 : w2.heap[b]? = some (.cells #[.pointer (some ⟨b, 0, none⟩), v] 49 (0, 0)) := (hgrow.block b (lt_of_blk HBa.out) (fun e => HNe.out e.symm)).trans HBa.out
  have d0 : w2.cell? ⟨b, 0, none⟩ = some (.pointer (some ⟨b, 0, none⟩)) := by rw [Lib.cell_of_heap hb2]; rfl
  have d1 : w2.cell? ⟨b, 1, none⟩ = some v := by rw [Lib.cell_of_heap hb2]; rfl
  have f1 : w2.frozen? ⟨b, 1, none⟩ = false := Lib.frozen_of_heap hb2 1
  have hlt2 := lt_of_blk hb2
  have HO2 := Lib.hid happ.own
  have HG2 := Lib.hid hgrow
  have HB2 := Lib.hid hb2
  clear happ hgrow hb2
  go_wp2_with fail
  go_ret
  refine ⟨rfl, ?_, ?_⟩
  · have h9 := Lib.BuilderAt.put (T := 49) (e := 5) hB0 HB2.out (bs' := Lib.byteCells (l ++ [c])) (by have := HO2.out; rw [Lib.byteCells_length, List.length_append]; rw [← cb_append] at this; exact this) (by decide)
    exact h9
  · exact HB1.out.trans ((((HBl.out.mono hBw1)).grown HG2.out (Nat.le_trans hBw1 HBl.out.size) (fun k hk => (HOw.out.lt k hk).1)).setCell (p := ⟨b, 1, none⟩) hB0 _)
set_option maxRecDepth 100000 in
set_option maxHeartbeats 1000000 in
theorem writeE (B b : Nat) (l : List UInt8) (s : ByteArray) (w : World) (h : EbIs w B b l) (hlen : l.length + s.size ≤ 100000000) (hB : B ≤ w.heap.size) :
    Calls Try.prog 20 #[.pointer (some ⟨b, 0, none⟩), .string s] w fun e w' => e = .returned (.tuple #[.int .i64 s.size, .nilIface]) ∧ EbAt w' B b (l ++ sb s) ∧ Below B w w' := by
  obtain ⟨i0, hi, hz0, hz1, hz2⟩ := info_parts u8info
  have hlb0 := lt_of_blk (h.at_.choose_spec.2.choose_spec.1)
  have hcc := checkE B b l w h
  clear h
  go_enter Try.func20, Try.ntmps20
  go_wp2_with fail
  refine hcc.mono ?_
  rintro e w1 ⟨rfl, h, hb1, hsz1, hk1⟩
  clear hcc
  have HB1 := Lib.hid hb1
  have HK1 := Lib.hid hk1
  have hBw1 : B ≤ w1.heap.size := Nat.le_trans hB hsz1
  obtain ⟨hB0, v, hbk, hown, hne⟩ := h
  have c1 : w1.cell? ⟨b, 1, none⟩ = some v := by rw [Lib.cell_of_heap hbk]; rfl
  have hlb : (Lib.byteCells l).length = l.length := Lib.byteCells_length l
  rw [hlb] at hown
  have HOw := Lib.hid hown
  have HBk := Lib.hid hbk
  have HNe := Lib.hid hne
  clear hown hbk hne hlb hb1 hk1
  go_wp2_with (at_builtin; refine Lib.wpList_append_own_string _ rfl _ _ 32 9 rfl B 5 i0 Try.underlying32 Try.underlying9 hi hz0 hz1 hz2 _ _ _ rfl HOw.out s rfl ?c3 ?c4 ?c5 ?_)
  case c3 => unfold maxLen; omega
  case c4 => omega
  case c5 => exact hBw1
  intro v' w2 hown' hgrow _
  obtain ⟨A', n', c', rfl⟩ : ∃ ao n' cap, v' = .slice ao n' cap := by
    rcases hown'.2 with ⟨hv, _⟩ | ⟨g, cap, cur, hv, _⟩
    · exact ⟨_, _, _, hv⟩
    · exact ⟨_, _, _, hv⟩
  have hlt := lt_of_blk HBk.out
  have hb2 : w2.heap[b]? = some (.cells #[.pointer (some ⟨b, 0, none⟩), v] 49 (0, 0)) := (hgrow.block b hlt (fun e => HNe.out e.symm)).trans HBk.out
  have d0 : w2.cell? ⟨b, 0, none⟩ = some (.pointer (some ⟨b, 0, none⟩)) := by rw [Lib.cell_of_heap hb2]; rfl
  have d1 : w2.cell? ⟨b, 1, none⟩ = some v := by rw [Lib.cell_of_heap hb2]; rfl
  have f1 : w2.frozen? ⟨b, 1, none⟩ = false := Lib.frozen_of_heap hb2 1
  have hlt2 := lt_of_blk hb2
  have HO2 := Lib.hid hown'
  have HG2 := Lib.hid hgrow
  have HB2 := Lib.hid hb2
  clear hown' hgrow hb2
  go_wp2_with fail
  go_ret2
  refine ⟨rfl, ?_, ?_⟩
  · have h9 := Lib.BuilderAt.put (T := 49) (e := 5) hB0 HB2.out (bs' := Lib.byteCells (l ++ sb s)) (by have := HO2.out; rw [Lib.strCells_eq] at this; rw [Lib.byteCells_append, List.length_append, Lib.byteCells_length, Lib.byteCells_length, sb_len]; simpa using this) (by decide)
    exact h9
  · exact HB1.out.trans (((Below.refl B w1).grown HG2.out hBw1 (fun k hk => (HOw.out.lt k hk).1)).setCell (p := ⟨b, 1, none⟩) hB0 _)
theorem isPlain_any (c : UInt8) (w : World) :
    Calls Try.prog 37 #[.int .u8 (c.toNat : Int)] w fun e w' => e = .returned (.bool (plainB c)) ∧ w = w' := by
  obtain ⟨r, hr⟩ : ∃ r, plainB c = r := ⟨_, rfl⟩
  rw [hr]
  have HR := Lib.hid hr
  have hc := c.toNat_lt
  generalize hn : c.toNat = n at *
  clear hr
  go_enter Try.func37, Try.ntmps37
  go_wp2_with fail
  all_goals
    go_ret
    refine ⟨congrArg (fun x => Ending.returned (Value.bool x)) ?_, rfl⟩
    rw [← HR.out]
    unfold plainB
    rw [hn]
    refine Bool.eq_iff_iff.2 ?_
    first
    | (simp; done)
    | (simp; omega)
end Go.Proofs.Ytlmelfakmllinaa.Fl
