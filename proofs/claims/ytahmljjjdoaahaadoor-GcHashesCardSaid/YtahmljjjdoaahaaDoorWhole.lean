/-
  Loading memory: the object at a place, with all its cells; are the bytes behind a Raw object's last one 0?
-/
import Derived.Test.YtahmljjjdoaahaaDoorPDoc
import Derived.Test.YtahmljjjdoaahaaDoorHeapE
namespace Go.Proofs.YtahmljjjdoaahaaDoor.Fl
open Go.RowKit

theorem one_cellW {w : World} {g : Nat} {v : Value} {T : TypeId} (h : w.heap[g]? = some (.cells #[v] T (0, 0))) : w.cell? ⟨g, 0, none⟩ = some v ∧ ∀ k, w.frozen? ⟨g, k, none⟩ = false :=
  ⟨cell_of_row _ _ _ _ _ _ h, fun _ => frozen_of_row _ _ _ _ _ h⟩
/-- a head as a value -/
def headV (o : Ob) : Value := .agg #[.int .u64 (o.cl : Int), .int .i64 (o.kind : Int), .int .i64 (o.sz : Int), .int .u32 (o.hash : Int), .bool o.mark]
def WholePost (v : Value) (w : World) (e : Ending) (w' : World) : Prop := e = .returned v ∧ Below w.heap.size w w'
theorem set5' {w : World} {g : Nat} {a0 a1 a2 a3 a4 v v1 v2 v3 v4 : Value} {T : TypeId} (h : w.heap[g]? = some (.cells #[a0, a1, a2, a3, a4] T (0, 0))) :
    (((((w.setCell ⟨g, 0, none⟩ v).setCell ⟨g, 1, none⟩ v1).setCell ⟨g, 2, none⟩ v2).setCell ⟨g, 3, none⟩ v3).setCell ⟨g, 4, none⟩ v4).heap[g]? = some (.cells #[v, v1, v2, v3, v4] T (0, 0)) := by
  have s0 : (w.setCell ⟨g, 0, none⟩ v).heap[g]? = some (.cells #[v, a1, a2, a3, a4] T (0, 0)) := heap_setCell_same w g 0 _ _ v h
  generalize w.setCell ⟨g, 0, none⟩ v = x0 at s0 ⊢
  have s1 : (x0.setCell ⟨g, 1, none⟩ v1).heap[g]? = some (.cells #[v, v1, a2, a3, a4] T (0, 0)) := heap_setCell_same _ g 1 _ _ v1 s0
  generalize x0.setCell ⟨g, 1, none⟩ v1 = x1 at s1 ⊢
  have s2 : (x1.setCell ⟨g, 2, none⟩ v2).heap[g]? = some (.cells #[v, v1, v2, a3, a4] T (0, 0)) := heap_setCell_same _ g 2 _ _ v2 s1
  generalize x1.setCell ⟨g, 2, none⟩ v2 = x2 at s2 ⊢
  have s3 : (x2.setCell ⟨g, 3, none⟩ v3).heap[g]? = some (.cells #[v, v1, v2, v3, a4] T (0, 0)) := heap_setCell_same _ g 3 _ _ v3 s2
  generalize x2.setCell ⟨g, 3, none⟩ v3 = x3 at s3 ⊢
  exact heap_setCell_same _ g 4 _ _ v4 s3
section
variable {w w' : World} {base g gc cap gb gb2 size last : Nat} {os : List Ob} {ws : List Nat}
set_option maxRecDepth 100000 in
set_option maxHeartbeats 2000000 in
theorem whole_any {k : Nat} (hk : k < os.length) (h : HeapAt w base g gc cap gb gb2 size last (Lof os) ws) (hok : ∀ o ∈ os, o.Ok) :
    Calls Tryd.prog 75 #[.pointer (some ⟨g, 0, none⟩), .int .i64 (pos os k : Int)] w (WholePost (headV os[k]) w) := by
  have hi := headIn hok hk
  have ho := hok _ (List.getElem_mem hk)
  have htop := pos_top os hk
  have hlen : (Lof os).length ≤ 16777216 := Nat.le_trans h.room h.small
  have hpk := fun (w' : World) (hw' : HeapAt w' base g gc cap gb gb2 size last (Lof os) ws) => packed_any (pos os k) os[k].cl _ w' hw' hi.a hi.b
  have hun := fun (w' : World) => unpack_obj os[k].cl os[k].kind os[k].sz os[k].hash os[k].mark w' hi.ok hi.lt
  have hc := fun w' => cells_any os[k].cl os[k].kind os[k].sz os[k].hash os[k].mark w' (by omega) (by have := ho.lt; omega)
  rw [ho.len] at hc
  have hd0 : Below w.heap.size w (w.alloc (.cells #[.int .u64 0, .int .i64 0, .int .i64 0, .int .u32 0, .bool false] 52)) := (Below.refl _ _).alloc (Nat.le_refl _) _
  have H1 := Lib.hid (h.below hd0)
  have c1 := H1.out.c1
  have hgl := h.gl.1
  unfold headV
  generalize os[k] = o at *
  generalize pos os k = P at *
  generalize Lof os = L at *
  generalize pk o.kind o.sz o.hash o.mark = X at hpk hun
  obtain ⟨n, hn⟩ : ∃ n, o.xs.length = n := ⟨_, rfl⟩
  rw [hn] at hc htop
  have HH := Lib.hid h
  clear h hi ho hn hok hk
  go_enter Tryd.func75, Tryd.ntmps75
  have hlt0 : ¬ ((L.length : Int) - (P : Int) - 2 < 0) := by omega
  go_wp2_with fail
  refine (hpk _ H1.out).mono ?_
  rintro e w1 ⟨rfl, hb1⟩
  go_wp2_with fail
  refine (hun _).mono ?_
  rintro e w2 ⟨rfl, hb2⟩
  have s1 := hb1.size
  simp at s1
  have s2 := hb2.size
  have B2 : w2.heap[w.heap.size]? = some (.cells #[.int .u64 0, .int .i64 0, .int .i64 0, .int .u32 0, .bool false] 52 (0, 0)) := by
    rw [hb2.block _ (by omega), hb1.block _ (by simp)]; exact heap_alloc_new w _
  have hbw : Below w.heap.size w w2 := ((Below.refl _ _).alloc (Nat.le_refl _) _).trans ((hb1.mono (by simp)).trans (hb2.mono (by omega)))
  have l0 : w.heap.size < w2.heap.size := by omega
  have HBw := Lib.hid hbw
  have HB2 := Lib.hid B2
  have HL0 := Lib.hid l0
  have hle : ¬ ((n : Int) > (L.length : Int) - (P : Int) - 2) := by omega
  clear hb1 hb2 s1 s2 B2 hbw c1 H1 hpk hun hd0
  go_wp2_with fail
  refine (hc _).mono ?_
  rintro e w3 ⟨rfl, hb3⟩
  have B3 : w3.heap[w.heap.size]? = some (.cells #[.int .u64 0, .int .i64 0, .int .i64 0, .int .u32 0, .bool false] 52 (0, 0)) := by
    rw [hb3.block _ (by have := HL0.out; simp; omega), heap_alloc_old _ _ HL0.out]; exact HB2.out
  have B4 : w3.heap[w2.heap.size]? = some (.cells #[.int .u64 (o.cl : Int), .int .i64 (o.kind : Int), .int .i64 (o.sz : Int), .int .u32 (o.hash : Int), .bool o.mark] 52 (0, 0)) := (hb3.block _ (by simp)).trans (heap_alloc_new w2 _)
  have hbr : Below w.heap.size w w3 := (HBw.out.alloc HBw.out.size _).trans (hb3.mono (by have := HBw.out.size; simp; omega))
  have hne : w2.heap.size ≠ w.heap.size := by have := HL0.out; omega
  have f3 := cells5 B3
  have f4 := cells5 B4
  have r3 := fun k => frozen_of_row w3 w.heap.size k _ _ B3
  have HBr := Lib.hid hbr
  have HB3 := Lib.hid B3
  clear hc hb3 B3 B4 hbr l0 HBw HB2 HL0
  generalize w2.heap.size = g9 at *
  go_wp2_with fail
  obtain ⟨wf, hwf⟩ : ∃ wf, (((((w3.setCell ⟨w.heap.size, 0, none⟩ (.int .u64 (o.cl : Int))).setCell ⟨w.heap.size, 1, none⟩ (.int .i64 (o.kind : Int))).setCell ⟨w.heap.size, 2, none⟩ (.int .i64 (o.sz : Int))).setCell ⟨w.heap.size, 3, none⟩ (.int .u32 (o.hash : Int))).setCell ⟨w.heap.size, 4, none⟩ (.bool o.mark)) = wf := ⟨_, rfl⟩
  have hR := set5' (v := .int .u64 (o.cl : Int)) (v1 := .int .i64 (o.kind : Int)) (v2 := .int .i64 (o.sz : Int)) (v3 := .int .u32 (o.hash : Int)) (v4 := .bool o.mark) HB3.out
  have hB := ((((HBr.out.setCell (p := ⟨w.heap.size, 0, none⟩) (Nat.le_refl _) (.int .u64 (o.cl : Int))).setCell (p := ⟨w.heap.size, 1, none⟩) (Nat.le_refl _) (.int .i64 (o.kind : Int))).setCell (p := ⟨w.heap.size, 2, none⟩) (Nat.le_refl _) (.int .i64 (o.sz : Int))).setCell (p := ⟨w.heap.size, 3, none⟩) (Nat.le_refl _) (.int .u32 (o.hash : Int))).setCell (p := ⟨w.heap.size, 4, none⟩) (Nat.le_refl _) (.bool o.mark)
  rw [hwf] at hR hB ⊢
  obtain ⟨q0, q1, q2, q3, q4⟩ := cells5 hR
  exact bodyPost_ret (v := .agg #[.int .u64 (o.cl : Int), .int .i64 (o.kind : Int), .int .i64 (o.sz : Int), .int .u32 (o.hash : Int), .bool o.mark]) (by simp [results, Tryd.results75, go_sem, q0, q1, q2, q3, q4]) rfl ⟨rfl, hB⟩
/-- the bytes behind a Raw object's last one are 0 -/
def CleanO (o : Ob) : Prop := o.kind = 2 → o.sz % 8 ≠ 0 → ∃ h : 0 < o.xs.length, o.xs[o.xs.length - 1] / 2 ^ (8 * (o.sz % 8)) = 0
set_option maxRecDepth 100000 in
set_option maxHeartbeats 2000000 in
theorem clean_any {k : Nat} (hk : k < os.length) (h : HeapAt w base g gc cap gb gb2 size last (Lof os) ws) (hok : ∀ o ∈ os, o.Ok) (hcl : CleanO os[k]) :
    Calls Tryd.prog 68 #[.pointer (some ⟨g, 0, none⟩), .int .i64 (pos os k : Int), headV os[k]] w (WholePost (.bool true) w) := by
  have ho := hok _ (List.getElem_mem hk)
  have htop := pos_top os hk
  have hd0 : Below w.heap.size w (w.alloc (.cells #[.int .u64 (os[k].cl : Int), .int .i64 (os[k].kind : Int), .int .i64 (os[k].sz : Int), .int .u32 (os[k].hash : Int), .bool os[k].mark] 52)) := (Below.refl _ _).alloc (Nat.le_refl _) _
  have hwd := fun (w' : World) (hw' : HeapAt w' base g gc cap gb gb2 size last (Lof os) ws) => hwords_any (pos os k) os[k].xs.length os[k].cl os[k].kind os[k].sz os[k].hash os[k].mark w' hw' (by have := ho.lt; omega) ho.len (by omega)
  have hce : ∀ (w' : World) (hw' : HeapAt w' base g gc cap gb gb2 size last (Lof os) ws) (j : Nat) (hj : j < os[k].xs.length), w'.cell? ⟨gc, pos os k + 2 + j, none⟩ = some (.int .u64 (os[k].xs[j] : Int)) := fun w' hw' j hj => by
    have e := Lof_at os hk (2 + j) (by omega)
    rw [show os[k].cells[2 + j]? = some os[k].xs[j] by
      show (os[k].cl :: pk _ _ _ _ :: os[k].xs)[2 + j]? = _
      rw [show 2 + j = j + 1 + 1 by omega, List.getElem?_cons_succ, List.getElem?_cons_succ, List.getElem?_eq_getElem hj], ← Nat.add_assoc] at e
    obtain ⟨hl, e2⟩ := List.getElem?_eq_some_iff.1 e
    rw [← e2]; exact hw'.cell hl
  have hlen : os[k].xs.length ≤ 16777216 := by have : (Lof os).length ≤ 16777216 := Nat.le_trans h.room h.small; omega
  have hxl := ho.xlt
  have hsz : os[k].sz ≤ 1048576 := by have := (hErr_ok ho.ok).2.1; omega
  unfold headV
  have HO := Lib.hid (fun (wx : World) (hb : Below w.heap.size w wx) => h.below hb)
  generalize os[k] = o at *
  generalize pos os k = P at *
  have HWd := Lib.hid hwd
  have HCe := Lib.hid hce
  clear h hok hk ho htop hwd hce
  by_cases h2 : o.kind = 2
  · have h2' : ((o.kind : Int) != 2) = false := by simp [h2]
    by_cases h8 : o.sz % 8 = 0
    · have h8' : ((o.sz : Int) % 8 == 0) = true := beq_iff_eq.2 (by omega)
      have hb1 := Lib.hid hd0
      clear hd0
      clear hcl h2 h8
      go_enter Tryd.func68, Tryd.ntmps68
      go_wp2_with fail
      go_ret
      exact ⟨rfl, hb1.out⟩
    · have h8' : ((o.sz : Int) % 8 == 0) = false := beq_eq_false_iff_ne.2 (by omega)
      obtain ⟨h0, hx0⟩ := hcl h2 h8
      have hb1 := Lib.hid hd0
      have hx := hxl _ (List.getElem_mem (Nat.sub_lt h0 (by decide) : o.xs.length - 1 < o.xs.length))
      have hce := HCe.out
      obtain ⟨x, hxx⟩ : ∃ x, o.xs[o.xs.length - 1] = x := ⟨_, rfl⟩
      have hce' : ∀ (w' : World), HeapAt w' base g gc cap gb gb2 size last (Lof os) ws → w'.cell? ⟨gc, P + 2 + (o.xs.length - 1), none⟩ = some (.int .u64 (x : Int)) := fun w' hw' => by rw [← hxx]; exact hce w' hw' _ _
      rw [hxx] at hx hx0
      obtain ⟨n, hn⟩ : ∃ n, o.xs.length = n + 1 := ⟨o.xs.length - 1, by omega⟩
      have hwd := HWd.out
      rw [hn] at hwd hce' hlen
      rw [Nat.add_sub_cancel] at hce'
      have HX0 := Lib.hid hx0
      have HW2 := Lib.hid hwd
      have HC2 := Lib.hid hce'
      clear hcl h2 h8 hd0 h0 hxx hn hce HCe HWd hxl hx0 hwd hce'
      go_enter Tryd.func68, Tryd.ntmps68
      go_wp2_with fail
      refine (HW2.out _ (HO.out _ hb1.out)).mono ?_
      rintro e w1 ⟨A, c, rfl, hA, hb2⟩
      obtain rfl := hA (Nat.succ_pos n)
      have hb3 := hb1.out.trans (hb2.mono hb1.out.size)
      have hcx := HC2.out _ (HO.out _ hb3)
      have HB3 := Lib.hid hb3
      clear hb2 hb3 hA
      have HQ : Hid (((x : Int) / 2 ^ (o.sz % 8 * 8) == 0) = true) := Lib.hid (by
        have e := HX0.out
        rw [Nat.mul_comm] at e
        rw [show ((x : Int) / 2 ^ (o.sz % 8 * 8)) = ((x / 2 ^ (o.sz % 8 * 8) : Nat) : Int) by simp, e]; rfl)
      go_wp2_with fail
      go_ret
      exact ⟨congrArg (fun b => Ending.returned (.bool b)) HQ.out, HB3.out⟩
  · have h2' : ((o.kind : Int) != 2) = true := by simp; omega
    clear hcl h2
    have hb1 := Lib.hid hd0
    clear hd0
    go_enter Tryd.func68, Tryd.ntmps68
    go_wp2_with fail
    go_ret
    exact ⟨rfl, hb1.out⟩
end
end Go.Proofs.YtahmljjjdoaahaaDoor.Fl
