/-
  What can be reached: Reach, and how many cells that are.
-/
import Derived.Test.YthklbpcpmmpfmaaMarkS
import Derived.Deep.RegionHeld3
namespace Go.Proofs.Ythklbpcpmmpfmaa.Fl
open Go.RowKit

section
variable {w w' : World} {base g gc cap gb gb2 size last LB lk sb sb2 : Nat} {L ws fs : List Nat} {k : Nat}
theorem cells_after {x w' : World} {v0 v1 v2 v3 v4 : Value} {T : TypeId} (hb : Below (x.alloc (.cells #[v0, v1, v2, v3, v4] T)).drew.heap.size (x.alloc (.cells #[v0, v1, v2, v3, v4] T)).drew w') :
    (w'.cell? ⟨x.heap.size, 0, none⟩ = some v0 ∧ w'.cell? ⟨x.heap.size, 1, none⟩ = some v1 ∧ w'.cell? ⟨x.heap.size, 2, none⟩ = some v2 ∧ w'.cell? ⟨x.heap.size, 3, none⟩ = some v3 ∧ w'.cell? ⟨x.heap.size, 4, none⟩ = some v4) ∧ (∀ k, w'.frozen? ⟨x.heap.size, k, none⟩ = false) ∧ w'.heap[x.heap.size]? = some (.cells #[v0, v1, v2, v3, v4] T (0, 0)) := by
  have h : w'.heap[x.heap.size]? = some (.cells #[v0, v1, v2, v3, v4] T (0, 0)) := by rw [hb.block _ (by show x.heap.size < (x.alloc _).heap.size; simp)]; exact heap_alloc_new x _
  exact ⟨cells5 h, fun k => frozen_of_row _ _ _ _ _ h, h⟩
theorem set5n {w : World} {g : Nat} {a0 a1 a2 a3 a4 v v1 v2 v3 v4 : Value} {T : TypeId} (h : w.heap[g]? = some (.cells #[a0, a1, a2, a3, a4] T (0, 0))) :
    (((((w.setCell ⟨g, 0, none⟩ v).setCell ⟨g, 1, none⟩ v1).setCell ⟨g, 2, none⟩ v2).setCell ⟨g, 3, none⟩ v3).setCell ⟨g, 4, none⟩ v4).heap[g]? = some (.cells #[v, v1, v2, v3, v4] T (0, 0)) := by
  have := set5 (v := v) (v1 := v1) (v2 := v2) (v3 := v3) (v4 := v4) h
  generalize (((((w.setCell ⟨g, 0, none⟩ v).setCell ⟨g, 1, none⟩ v1).setCell ⟨g, 2, none⟩ v2).setCell ⟨g, 3, none⟩ v3).setCell ⟨g, 4, none⟩ v4) = z at *
  exact this
theorem fin_alloc {wr w2 : World} {cs : Array Value} {T : TypeId} (hb : Below wr.heap.size wr w2) :
    ∃ b : Nat, Value.pointer (some ⟨w2.heap.size, 0, none⟩) = .pointer (some ⟨b, 0, none⟩) ∧ Value.int .i64 0 = .int .i64 0 ∧ Hid ((w2.alloc (.cells cs T)).heap[b]? = some (.cells cs T (0, 0))) ∧ Hid (Below wr.heap.size wr (w2.alloc (.cells cs T))) :=
  ⟨_, rfl, rfl, Lib.hid (heap_alloc_new w2 _), Lib.hid (hb.alloc hb.size _)⟩
theorem fin_set {wr w2 : World} {a0 a1 a2 a3 a4 v0 v1 v2 v3 v4 : Value} {T : TypeId} (h : w2.heap[wr.heap.size]? = some (.cells #[a0, a1, a2, a3, a4] T (0, 0))) (h0 : Below wr.heap.size wr w2) :
    ∃ b : Nat, Value.pointer (some ⟨wr.heap.size, 0, none⟩) = .pointer (some ⟨b, 0, none⟩) ∧ Value.int .i64 0 = .int .i64 0 ∧ Hid ((((((w2.setCell ⟨wr.heap.size, 0, none⟩ v0).setCell ⟨wr.heap.size, 1, none⟩ v1).setCell ⟨wr.heap.size, 2, none⟩ v2).setCell ⟨wr.heap.size, 3, none⟩ v3).setCell ⟨wr.heap.size, 4, none⟩ v4).heap[b]? = some (.cells #[v0, v1, v2, v3, v4] T (0, 0))) ∧ Hid (Below wr.heap.size wr (((((w2.setCell ⟨wr.heap.size, 0, none⟩ v0).setCell ⟨wr.heap.size, 1, none⟩ v1).setCell ⟨wr.heap.size, 2, none⟩ v2).setCell ⟨wr.heap.size, 3, none⟩ v3).setCell ⟨wr.heap.size, 4, none⟩ v4)) := by
  exact ⟨_, rfl, rfl, Lib.hid (set5n h), Lib.hid (((((h0.setCell (by simp) _).setCell (by simp) _).setCell (by simp) _).setCell (by simp) _).setCell (by simp) _)⟩
section
variable {wr w2 : World} {o : Obj}
theorem k1 : Below wr.heap.size wr wr.drew := (Below.refl _ _).drew
theorem k2 : Below wr.heap.size wr (wr.alloc o).drew := ((Below.refl _ _).alloc (Nat.le_refl _) _).drew
theorem k2' : Below wr.heap.size wr (wr.drew.alloc o) := (Below.refl wr.heap.size wr).drew.alloc (Nat.le_refl _) _
theorem k3 (hb : Below wr.drew.heap.size wr.drew w2) : Below wr.heap.size wr w2 := (Below.refl _ wr).drew.trans hb
theorem k3' (hb : Below (wr.alloc o).drew.heap.size (wr.alloc o).drew w2) : Below wr.heap.size wr w2 :=
  ((Below.refl _ wr).alloc (Nat.le_refl _) o).drew.trans (hb.mono (by show wr.heap.size ≤ (wr.alloc o).heap.size; simp))
theorem kS {v0 v1 v2 v3 v4 : Value} (hb : Below wr.heap.size wr w2) : Below wr.heap.size wr (((((w2.setCell ⟨wr.heap.size, 0, none⟩ v0).setCell ⟨wr.heap.size, 1, none⟩ v1).setCell ⟨wr.heap.size, 2, none⟩ v2).setCell ⟨wr.heap.size, 3, none⟩ v3).setCell ⟨wr.heap.size, 4, none⟩ v4) :=
  (((((hb.setCell (by simp) _).setCell (by simp) _).setCell (by simp) _).setCell (by simp) _).setCell (by simp) _)
theorem kA (hb : Below wr.heap.size wr w2) : Below wr.heap.size wr (w2.alloc o) := hb.alloc hb.size _
end
def ReachPost (w : World) (size n : Nat) (ws fs : List Nat) (e : Ending) (w' : World) : Prop :=
  ∃ sb sb2 bs, e = .returned (.tuple #[.pointer (some ⟨sb, 0, none⟩), .int .i64 (n : Int), .int .i64 0]) ∧ w.heap.size ≤ sb ∧ w.heap.size ≤ sb2 ∧ BitsAt w' sb sb2 size bs ∧ (∀ i, bitAt bs i = true ↔ 2 * i ∈ fs) ∧ (fs.Nodup ∧ ∀ p ∈ fs, isP ws p) ∧ Below w.heap.size w w'
set_option maxHeartbeats 4000000 in
theorem reach_any {ld : Nat → List Nat} {cn : Nat → Nat} {fs0 : List Nat} {S : Nat → List Nat × Nat} {T : Nat} (rs : List Nat) (A : Option Addr) (c : Nat) (w : World) (hG : Graph ld cn L ws) (h : HeapAt w base g gc cap gb gb2 size last L ws) (hr : Rd w w.heap.size A (cw rs)) (hrs : ∀ x ∈ rs, x < 18446744073709551616) (hrl : rs.length ≤ 9223372036854775807) (hf : findL ws [] rs = some fs0) (hS : Waves ld ws fs0 S T) :
    Calls Try.prog 7 #[.pointer (some ⟨g, 0, none⟩), .slice A rs.length c] w (ReachPost w size (sumC cn (S T).1) ws (S T).1) := by
  have hall := all_any rs A c w hG.leads h hr hrs hrl hf hS
  have HG := Lib.hid hG
  clear hG hS h hr hrs hf hrl
  generalize (S T).1 = fs at *
  generalize (S T).2 = k at *
  go_enter Try.func7, Try.ntmps7
  go_wp2_with fail
  refine hall.mono ?_
  rintro e w1 ⟨lk, sb, sb2, rfl, hL1, hb1⟩
  have H1 := Lib.hid hL1
  have B1 := Lib.hid hb1
  obtain ⟨v, hv, ho⟩ := hL1.found
  obtain ⟨A', c', rfl⟩ := own_len ho
  obtain ⟨d0, d1, d3, df, dlt⟩ := hL1.c
  have hlen : fs.length ≤ 16777216 := Nat.le_trans hL1.len hL1.heap.small
  clear hL1 hb1 hall ho
  go_wp2_with fail
  clear d0 d1 d3 df dlt hv
  go_loopw [27, 9] (fun v u wr => ∃ j : Nat, j ≤ fs.length ∧ v = .int .i64 j ∧ u = .int .i64 (sumC cn (fs.take j) : Nat) ∧ Hid (LookAt wr base g gc cap gb gb2 size last w.heap.size lk sb sb2 L ws fs k) ∧ Hid (Below w.heap.size w wr)) (fun v _ _ => fs.length - (intOf v).toNat)
  case atStart => exact ⟨0, Nat.zero_le _, rfl, by simp [sumC], H1, B1⟩
  case round =>
    obtain ⟨j, hj, rfl, rfl, HR, HK⟩ := hrel
    clear H1 B1
    obtain ⟨d0, d1, d3, df, dlt⟩ := HR.out.c
    by_cases hlt : j < fs.length
    · obtain ⟨v, hv, ho⟩ := HR.out.found
      obtain ⟨f, c', rfl, hcell⟩ := own_cell ho hlt
      have hfl : f < wr.heap.size := World.block_lt_of_cell? wr _ hcell
      obtain ⟨cl, kind, sz, hash, mark, xs, hob, hld, hcn⟩ := HG.out _ (HR.out.isp _ (List.getElem_mem hlt))
      have hcl := HG.out.cn_le (HR.out.isp _ (List.getElem_mem hlt))
      have hsum := sumC_le cn (fs.take j) (fun p hp => HG.out.cn_le (HR.out.isp p (List.mem_of_mem_take hp)))
      rw [List.length_take] at hsum
      have hnext := Lib.hid (sumC_snoc cn (fs.take j) fs[j])
      rw [← List.take_succ_eq_append_getElem hlt] at hnext
      have hhead := fun w' (hw' : HeapAt w' base g gc cap gb gb2 size last L ws) => head_yes (fs[j] / 2) cl kind sz hash mark w' hw' hob.hi hob.isp.2.2.2 (by have := hob.isp.2.1; omega)
      rw [show ((fs[j] / 2 : Nat) : Int) * 2 = (fs[j] : Int) by have := hob.isp.1; omega] at hhead
      have hcells := fun w' => cells_any cl kind sz hash mark w' (by omega) (by have := hob.hi.lt; omega)
      rw [hcn] at hcells
      generalize sumC cn (fs.take j) = s at *
      clear ho hob hld hcn
      generalize fs[j] = p at *
      generalize cn p = n at *
      have hs9 : s ≤ 17592219598848 := by omega
      clear hsum
      go_upto_region 8 with fail
      go_cut [11, 12] (fun v u wx => ∃ b : Nat, v = .pointer (some ⟨b, 0, none⟩) ∧ u = .int .i64 0 ∧ Hid (wx.heap[b]? = some (.cells #[.int .u64 (cl : Int), .int .i64 (kind : Int), .int .i64 (sz : Int), .int .u32 (hash : Int), .bool mark] 45 (0, 0))) ∧ Hid (Below wr.heap.size wr wx))
      case first =>
        clear hcells hnext hcl hs9 HK HG
        have sx : ∀ w' : World, Below wr.heap.size wr w' → (w'.cell? ⟨lk, 0, none⟩ = some (.pointer (some ⟨g, 0, none⟩)) ∧ w'.cell? ⟨lk, 2, none⟩ = some (.slice (some ⟨f, 0, none⟩) fs.length c') ∧ w'.cell? ⟨f, j, none⟩ = some (.int .u64 (p : Int)) ∧ Hid (HeapAt w' base g gc cap gb gb2 size last L ws)) := fun w' hb =>
          ⟨(hb.cell (p := ⟨lk, 0, none⟩) dlt).trans d0, (hb.cell (p := ⟨lk, 2, none⟩) dlt).trans hv, (hb.cell (p := ⟨f, j, none⟩) hfl).trans hcell, Lib.hid (HR.out.heap.below hb)⟩
        have HSx := Lib.hid sx
        clear sx
        go_wp2_with fail
        go_region_held3 (fun w' : World => w'.cell? ⟨lk, 0, none⟩ = some (.pointer (some ⟨g, 0, none⟩)) ∧ w'.cell? ⟨lk, 2, none⟩ = some (.slice (some ⟨f, 0, none⟩) fs.length c') ∧ w'.cell? ⟨f, j, none⟩ = some (.int .u64 (p : Int)) ∧ Hid (HeapAt w' base g gc cap gb gb2 size last L ws))
          (first
            | with_reducible exact HSx.out _ (kS hbk)
            | with_reducible exact HSx.out _ (kA hbk)
            | with_reducible exact HSx.out _ hbk
            | with_reducible exact HSx.out _ k1
            | with_reducible exact HSx.out _ k2
            | with_reducible exact HSx.out _ k2')
          (first
            | (go_at_call 19; (refine (hhead _ ?_).mono ?_); (first | with_reducible exact HR.out.heap.below k1 | with_reducible exact HR.out.heap.below k2 | with_reducible exact HR.out.heap.below k2'); rintro e w2 ⟨rfl, hb2⟩; (first | (have hq := cells_after hb2; have hbk := k3' hb2; obtain ⟨hq1, hq2, hq3⟩ := hq; have hq4 := lt_of_block hq3; have HQ3 := Lib.hid hq3; clear hq3 hq4 hb2) | (have hbk := k3 hb2; clear hb2)); clear dlt hfl d0 d1 d3 df hv hcell hhead hlt hj))
        all_goals (rename_i hK hH; clear hH; refine hK _ _ ?_; clear hK)
        all_goals (go_wp2_with fail)
        all_goals go_meet
        · exact fin_alloc hbk
        · exact fin_set HQ3.out hbk
      case rest =>
        obtain ⟨b, rfl, rfl, HB, HBl⟩ := hcut
        have f5 := cells5 HB.out
        have H3 := Lib.hid (HR.out.keep HBl.out)
        have K3 := Lib.hid (HK.out.trans (HBl.out.mono HR.out.top))
        clear HR HK HBl HB hhead d0 d1 d3 df dlt hv hcell hfl
        go_wp2_with fail
        refine (hcells _).mono ?_
        rintro e w4 ⟨rfl, hb4⟩
        have H4 := Lib.hid (H3.out.keep hb4)
        have K4 := Lib.hid (K3.out.trans (hb4.mono H3.out.top))
        clear hb4 H3 K3 hcells f5
        go_wp2_with fail
        go_roundw
        case rel => exact ⟨j + 1, by omega, by simp, by rw [hnext.out]; simp, H4, K4⟩
        case measure => simp [intOf]; omega
    · have e : j = fs.length := by omega
      subst e
      rw [List.take_length] at *
      have hbl := HR.out.bl
      obtain ⟨bs, hB, hm⟩ := HR.out.bits
      have HBm := Lib.hid (And.intro hB hm)
      clear hB hm
      go_wp2_with fail
      exact bodyPost_ret (v := .tuple #[.pointer (some ⟨sb, 0, none⟩), .int .i64 (sumC cn fs : Nat), .int .i64 0]) (by simp [results, Try.results7, go_sem]) rfl ⟨sb, sb2, bs, rfl, hbl.2.1, hbl.2.2, HBm.out.1, HBm.out.2, ⟨HR.out.nd, HR.out.isp⟩, HK.out⟩
end
end Go.Proofs.Ythklbpcpmmpfmaa.Fl
