/-
  What can be reached: nothing is told where something is loose.
-/
import Derived.Test.YtahmljjjdoaahaaDoorMarkM
import Derived.Test.YtahmljjjdoaahaaDoorPMarkE
import Derived.Deep.RegionHeld3
namespace Go.Proofs.YtahmljjjdoaahaaDoor.Fl
open Go.RowKit

theorem WavesNo.le {ld : Nat → List Nat} {ws fs0 : List Nat} {S : Nat → List Nat × Nat} {T : Nat} (h : WavesNo ld ws fs0 S T) : ∀ t, t ≤ T → (S t).2 ≤ (S t).1.length
  | 0, _ => by rw [h.zero]; exact Nat.zero_le _
  | t + 1, ht => by
    obtain ⟨_, h2, h3⟩ := h.step t (by omega)
    obtain ⟨r, hr⟩ := askL_pre h2
    rw [h3, hr, List.length_append]; omega
section
variable {w w' : World} {base g gc cap gb gb2 size last LB lk sb sb2 : Nat} {L ws fs : List Nat} {k : Nat}
def NoPost (w : World) (e : Ending) (w' : World) : Prop := e = .returned (.tuple #[.pointer none, .int .i64 13]) ∧ Below w.heap.size w w'
set_option maxHeartbeats 2000000 in
theorem begin_loose (rs : List Nat) (A : Option Addr) (c : Nat) (w : World) (h : HeapAt w base g gc cap gb gb2 size last L ws) (hr : Rd w w.heap.size A (cw rs)) (hrs : ∀ x ∈ rs, x < 18446744073709551616) (hrl : rs.length ≤ 9223372036854775807) (hf : findL ws [] rs = none) :
    Calls Tryd.prog 50 #[.pointer (some ⟨g, 0, none⟩), .slice A rs.length c] w (NoPost w) := by
  have hsm := h.small
  have hgl := h.gl
  have hcl := fun w' (hw' : HeapAt w' base g gc cap gb gb2 size last L ws) => cellsH_any w' hw'
  have hnb := fun w' => newBits_nat size hsm w'
  have H := Lib.hid h
  have HF := Lib.hid hf
  have HRs := Lib.hid hrs
  have HR := Lib.hid hr
  clear h hf hrs hr
  go_enter Tryd.func50, Tryd.ntmps50
  go_wp2_with fail
  refine (hcl _ H.out).mono ?_
  rintro e w0 ⟨rfl, rfl⟩
  go_wp2_with fail
  refine (hnb _).mono ?_
  rintro e w1 ⟨sb, sb2, rfl, hsb, hsb2, hB, hb1⟩
  have hs1 := hb1.size
  have HL := Lib.hid (show LookAt (w1.alloc (.cells #[.pointer (some ⟨g, 0, none⟩), .pointer (some ⟨sb, 0, none⟩), .slice none 0 0, .int .i64 0] 81)) base g gc cap gb gb2 size last w.heap.size w1.heap.size sb sb2 L ws [] 0 from
    ⟨(H.out.below hb1).below ((Below.refl _ _).alloc (Nat.le_refl _) _), H.out.gl, ⟨_, heap_alloc_new w1 _, rfl, .inl ⟨rfl, rfl⟩⟩, ⟨_, hB.below ((Below.refl w1.heap.size _).alloc (Nat.le_refl _) _) hB.gl hB.gl2, fun i => by simp [bitAt_zero]⟩, ⟨hs1, hsb, hsb2⟩, by simp, by simp, by simp; omega⟩)
  have hbw := Lib.hid (hb1.trans (((Below.refl w1.heap.size w1).alloc (Nat.le_refl _) (.cells #[.pointer (some ⟨g, 0, none⟩), .pointer (some ⟨sb, 0, none⟩), .slice none 0 0, .int .i64 0] 81)).mono hs1))
  clear hB hb1 hcl hnb hsb hsb2
  go_wp2_with fail
  generalize w1.heap.size = lk at *
  go_loopw [17] (fun v wr => ∃ (j : Nat) (fj : List Nat), j ≤ rs.length ∧ v = .int .i64 j ∧ Hid (findL ws fj (rs.drop j) = none) ∧ Hid (LookAt wr base g gc cap gb gb2 size last w.heap.size lk sb sb2 L ws fj 0) ∧ Hid (Below w.heap.size w wr)) (fun v _ => rs.length - (intOf v).toNat)
  case atStart => exact ⟨0, [], Nat.zero_le _, rfl, HF, HL, hbw⟩
  case round =>
    obtain ⟨j, fj, hj, rfl, HFj, HRl, HK⟩ := hrel
    clear HF HL hbw
    by_cases hlt : j < rs.length
    · obtain ⟨b, off, rfl, hbB, hcell⟩ := rdh_at (HR.out.below HK.out (Nat.le_refl _)) hlt
      have hask := HFj.out
      rw [List.drop_eq_getElem_cons hlt] at hask
      have hx := HRs.out _ (List.getElem_mem hlt)
      rcases findL_none hask with hno | ⟨f1, hf1, hf2⟩
      · have hcall := find_loose rs[j] wr HRl.out hx hno
        clear hask hno HFj hx
        generalize rs[j] = x at hcell hcall
        go_wp2_with fail
        refine hcall.mono ?_
        rintro e w2 ⟨rfl, rfl⟩
        clear HRl hcell hcall
        go_wp2_with fail
        go_ret2
        exact ⟨rfl, HK.out⟩
      have hcall := find_any rs[j] wr HRl.out hx hf1
      have HF2 := Lib.hid hf2
      clear hask hf1 hf2 HFj hx
      generalize rs[j] = x at hcell hcall
      go_wp2_with fail
      refine hcall.mono ?_
      rintro e w2 ⟨rfl, hL2, hK2⟩
      have H2 := Lib.hid hL2
      have K2 := Lib.hid (HK.out.trans (hK2.below (HRl.out.top)))
      clear hL2 hK2 HRl HK hcell hcall
      go_wp2_with fail
      go_roundw
      case rel => exact ⟨j + 1, f1, by omega, by simp, HF2, H2, K2⟩
      case measure => simp [intOf]; omega
    · have e : j = rs.length := by omega
      subst e
      have := HFj.out
      rw [List.drop_length] at this
      simp [findL] at this
set_option maxHeartbeats 2000000 in
theorem all_loose {ld : Nat → List Nat} {fs0 : List Nat} {S : Nat → List Nat × Nat} {T : Nat} (rs : List Nat) (A : Option Addr) (c : Nat) (w : World) (hG : Leads ld L ws) (h : HeapAt w base g gc cap gb gb2 size last L ws) (hr : Rd w w.heap.size A (cw rs)) (hrs : ∀ x ∈ rs, x < 18446744073709551616) (hrl : rs.length ≤ 9223372036854775807) (hf : findL ws [] rs = some fs0) (hS : WavesNo ld ws fs0 S T) :
    Calls Tryd.prog 24 #[.pointer (some ⟨g, 0, none⟩), .slice A rs.length c] w (NoPost w) := by
  have hbg := begin_any rs A c w h hr hrs hrl hf
  have HG := Lib.hid hG
  have HS := Lib.hid hS
  clear hG hS h hr hrs hf hrl
  go_enter Tryd.func24, Tryd.ntmps24
  go_wp2_with fail
  refine hbg.mono ?_
  rintro e w1 ⟨lk, sb, sb2, rfl, hL1, hb1⟩
  have H1 := Lib.hid hL1
  have B1 := Lib.hid hb1
  clear hL1 hb1 hbg
  go_wp2_with fail
  go_loopw [8] (fun _ wr => ∃ t : Nat, t ≤ T ∧ Hid (LookAt wr base g gc cap gb gb2 size last w.heap.size lk sb sb2 L ws (S t).1 (S t).2) ∧ Hid (Below w.heap.size w wr)) (fun _ wr => size + 1 - askedOf wr lk)
  case atStart => exact ⟨0, Nat.zero_le _, Lib.hid (by rw [HS.out.zero]; exact H1.out), B1⟩
  case round =>
    obtain ⟨t, ht, HR, HB⟩ := hrel
    clear H1 B1
    have hmore := more_any wr HR.out
    by_cases hlt : t < T
    · rw [decide_eq_true (HS.out.step t hlt).1] at hmore
      have hle := HS.out.le t ht
      obtain ⟨s1, s2, s3⟩ := HS.out.step t hlt
      have hwave := fun w' (hw' : LookAt w' base g gc cap gb gb2 size last w.heap.size lk sb sb2 L ws (S t).1 (S t).2) => wave_any (fs' := (S (t + 1)).1) w' HG.out hw' hle s2
      have HM := Lib.hid (show (S t).2 < (S (t + 1)).2 by rw [s3]; exact s1)
      rw [← s3] at hwave
      clear s1 s2 s3 hle
      go_wp2_with fail
      refine hmore.mono ?_
      rintro e w2 ⟨rfl, hb2⟩
      have H2 := Lib.hid (HR.out.keep hb2)
      have K2 := Lib.hid (HB.out.trans (hb2.mono HR.out.top))
      clear hb2 hmore HB
      go_wp2_with fail
      refine (hwave _ H2.out).mono ?_
      rintro e w3 ⟨rfl, hL3, hK3⟩
      have H3 := Lib.hid hL3
      have K3 := Lib.hid (K2.out.trans (hK3.below H2.out.top))
      clear hL3 hK3 hwave H2 K2
      go_wp2_with fail
      go_roundw
      case rel => exact ⟨t + 1, hlt, H3, K3⟩
      case measure =>
        rw [H3.out.asked, HR.out.asked]
        have h1 := HM.out
        have h2 := HS.out.le (t + 1) hlt
        have h3 := H3.out.len
        omega
    · have e : t = T := by omega
      subst e
      rw [decide_eq_true HS.out.last.1] at hmore
      have hle := HS.out.le t ht
      have hwave := fun w' (hw' : LookAt w' base g gc cap gb gb2 size last w.heap.size lk sb sb2 L ws (S t).1 (S t).2) => wave_loose w' HG.out hw' hle HS.out.last.2
      clear hle
      go_wp2_with fail
      refine hmore.mono ?_
      rintro e w2 ⟨rfl, hb2⟩
      have H2 := Lib.hid (HR.out.keep hb2)
      have K2 := Lib.hid (HB.out.trans (hb2.mono HR.out.top))
      clear hb2 hmore HB
      go_wp2_with fail
      refine (hwave _ H2.out).mono ?_
      rintro e w3 ⟨rfl, hK3⟩
      have K3 := Lib.hid (K2.out.trans (hK3.below H2.out.top))
      clear hK3 hwave H2 K2
      go_wp2_with fail
      go_ret2
      exact ⟨rfl, K3.out⟩
theorem all_none (rs : List Nat) (A : Option Addr) (c : Nat) (w : World) (h : HeapAt w base g gc cap gb gb2 size last L ws) (hr : Rd w w.heap.size A (cw rs)) (hrs : ∀ x ∈ rs, x < 18446744073709551616) (hrl : rs.length ≤ 9223372036854775807) (hf : findL ws [] rs = none) :
    Calls Tryd.prog 24 #[.pointer (some ⟨g, 0, none⟩), .slice A rs.length c] w (NoPost w) := by
  have hbg := begin_loose rs A c w h hr hrs hrl hf
  clear h hr hrs hf hrl
  go_enter Tryd.func24, Tryd.ntmps24
  go_wp2_with fail
  refine hbg.mono ?_
  rintro e w1 ⟨rfl, hb1⟩
  have B1 := Lib.hid hb1
  clear hb1 hbg
  go_wp2_with fail
  go_ret2
  exact ⟨rfl, B1.out⟩
end
end Go.Proofs.YtahmljjjdoaahaaDoor.Fl

/-
  What can be reached: Reach, and how many cells that are.
-/
namespace Go.Proofs.YtahmljjjdoaahaaDoor.Fl
open Go.RowKit

section
variable {w w' : World} {base g gc cap gb gb2 size last LB lk sb sb2 : Nat} {L ws fs : List Nat} {k : Nat}
theorem cells_after {x w' : World} {v0 v1 v2 v3 v4 : Value} {T : TypeId} (hb : Below (x.alloc (.cells #[v0, v1, v2, v3, v4] T)).drew.heap.size (x.alloc (.cells #[v0, v1, v2, v3, v4] T)).drew w') :
    (w'.cell? ⟨x.heap.size, 0, none⟩ = some v0 ∧ w'.cell? ⟨x.heap.size, 1, none⟩ = some v1 ∧ w'.cell? ⟨x.heap.size, 2, none⟩ = some v2 ∧ w'.cell? ⟨x.heap.size, 3, none⟩ = some v3 ∧ w'.cell? ⟨x.heap.size, 4, none⟩ = some v4) ∧ (∀ k, w'.frozen? ⟨x.heap.size, k, none⟩ = false) ∧ w'.heap[x.heap.size]? = some (.cells #[v0, v1, v2, v3, v4] T (0, 0)) := by
  have h : w'.heap[x.heap.size]? = some (.cells #[v0, v1, v2, v3, v4] T (0, 0)) := by rw [hb.block _ (by show x.heap.size < (x.alloc _).heap.size; simp)]; exact heap_alloc_new x _
  exact ⟨cells5 h, fun k => frozen_of_row _ _ _ _ _ h, h⟩
theorem set5n {w : World} {g : Nat} {a0 a1 a2 a3 a4 v v1 v2 v3 v4 : Value} {T : TypeId} (h : w.heap[g]? = some (.cells #[a0, a1, a2, a3, a4] T (0, 0))) :
    (((((w.setCell ⟨g, 0, none⟩ v).setCell ⟨g, 1, none⟩ v1).setCell ⟨g, 2, none⟩ v2).setCell ⟨g, 3, none⟩ v3).setCell ⟨g, 4, none⟩ v4).heap[g]? = some (.cells #[v, v1, v2, v3, v4] T (0, 0)) := by
  have := set5 (v := v) (v1 := v1) (v2 := v2) (v3 := v3) (v4 := v4) h
  generalize (((((w.setCell ⟨g, 0, none⟩ v).setCell ⟨g, 1, none⟩ v1).setCell ⟨g, 2, none⟩ v2).setCell ⟨g, 3, none⟩ v3).setCell ⟨g, 4, none⟩ v4) = z at *
  exact this
theorem fin_alloc {wr w2 : World} {cs : Array Value} {T : TypeId} (hb : Below wr.heap.size wr w2) :
    ∃ b : Nat, Value.pointer (some ⟨w2.heap.size, 0, none⟩) = .pointer (some ⟨b, 0, none⟩) ∧ Value.int .i64 0 = .int .i64 0 ∧ Hid ((w2.alloc (.cells cs T)).heap[b]? = some (.cells cs T (0, 0))) ∧ Hid (Below wr.heap.size wr (w2.alloc (.cells cs T))) :=
  ⟨_, rfl, rfl, Lib.hid (heap_alloc_new w2 _), Lib.hid (hb.alloc hb.size _)⟩
theorem fin_set {wr w2 : World} {a0 a1 a2 a3 a4 v0 v1 v2 v3 v4 : Value} {T : TypeId} (h : w2.heap[wr.heap.size]? = some (.cells #[a0, a1, a2, a3, a4] T (0, 0))) (h0 : Below wr.heap.size wr w2) :
    ∃ b : Nat, Value.pointer (some ⟨wr.heap.size, 0, none⟩) = .pointer (some ⟨b, 0, none⟩) ∧ Value.int .i64 0 = .int .i64 0 ∧ Hid ((((((w2.setCell ⟨wr.heap.size, 0, none⟩ v0).setCell ⟨wr.heap.size, 1, none⟩ v1).setCell ⟨wr.heap.size, 2, none⟩ v2).setCell ⟨wr.heap.size, 3, none⟩ v3).setCell ⟨wr.heap.size, 4, none⟩ v4).heap[b]? = some (.cells #[v0, v1, v2, v3, v4] T (0, 0))) ∧ Hid (Below wr.heap.size wr (((((w2.setCell ⟨wr.heap.size, 0, none⟩ v0).setCell ⟨wr.heap.size, 1, none⟩ v1).setCell ⟨wr.heap.size, 2, none⟩ v2).setCell ⟨wr.heap.size, 3, none⟩ v3).setCell ⟨wr.heap.size, 4, none⟩ v4)) := by
  exact ⟨_, rfl, rfl, Lib.hid (set5n h), Lib.hid (((((h0.setCell (by simp) _).setCell (by simp) _).setCell (by simp) _).setCell (by simp) _).setCell (by simp) _)⟩
section
variable {wr w2 : World} {o : Obj}
theorem k1 : Below wr.heap.size wr wr.drew := (Below.refl _ _).drew
theorem k2 : Below wr.heap.size wr (wr.alloc o).drew := ((Below.refl _ _).alloc (Nat.le_refl _) _).drew
theorem k2' : Below wr.heap.size wr (wr.drew.alloc o) := (Below.refl wr.heap.size wr).drew.alloc (Nat.le_refl _) _
theorem k3 (hb : Below wr.drew.heap.size wr.drew w2) : Below wr.heap.size wr w2 := (Below.refl _ wr).drew.trans hb
theorem k3' (hb : Below (wr.alloc o).drew.heap.size (wr.alloc o).drew w2) : Below wr.heap.size wr w2 :=
  ((Below.refl _ wr).alloc (Nat.le_refl _) o).drew.trans (hb.mono (by show wr.heap.size ≤ (wr.alloc o).heap.size; simp))
theorem kS {v0 v1 v2 v3 v4 : Value} (hb : Below wr.heap.size wr w2) : Below wr.heap.size wr (((((w2.setCell ⟨wr.heap.size, 0, none⟩ v0).setCell ⟨wr.heap.size, 1, none⟩ v1).setCell ⟨wr.heap.size, 2, none⟩ v2).setCell ⟨wr.heap.size, 3, none⟩ v3).setCell ⟨wr.heap.size, 4, none⟩ v4) :=
  (((((hb.setCell (by simp) _).setCell (by simp) _).setCell (by simp) _).setCell (by simp) _).setCell (by simp) _)
theorem kA (hb : Below wr.heap.size wr w2) : Below wr.heap.size wr (w2.alloc o) := hb.alloc hb.size _
end
def ReachPost (w : World) (size n : Nat) (ws fs : List Nat) (e : Ending) (w' : World) : Prop :=
  ∃ sb sb2 bs, e = .returned (.tuple #[.pointer (some ⟨sb, 0, none⟩), .int .i64 (n : Int), .int .i64 0]) ∧ w.heap.size ≤ sb ∧ w.heap.size ≤ sb2 ∧ BitsAt w' sb sb2 size bs ∧ (∀ i, bitAt bs i = true ↔ 2 * i ∈ fs) ∧ (fs.Nodup ∧ ∀ p ∈ fs, isP ws p) ∧ Below w.heap.size w w'
set_option maxHeartbeats 4000000 in
theorem reach_any {ld : Nat → List Nat} {cn : Nat → Nat} {fs0 : List Nat} {S : Nat → List Nat × Nat} {T : Nat} (rs : List Nat) (A : Option Addr) (c : Nat) (w : World) (hG : Graph ld cn L ws) (h : HeapAt w base g gc cap gb gb2 size last L ws) (hr : Rd w w.heap.size A (cw rs)) (hrs : ∀ x ∈ rs, x < 18446744073709551616) (hrl : rs.length ≤ 9223372036854775807) (hf : findL ws [] rs = some fs0) (hS : Waves ld ws fs0 S T) :
    Calls Tryd.prog 26 #[.pointer (some ⟨g, 0, none⟩), .slice A rs.length c] w (ReachPost w size (sumC cn (S T).1) ws (S T).1) := by
  have hall := all_any rs A c w hG.leads h hr hrs hrl hf hS
  have HG := Lib.hid hG
  clear hG hS h hr hrs hf hrl
  generalize (S T).1 = fs at *
  generalize (S T).2 = k at *
  go_enter Tryd.func26, Tryd.ntmps26
  go_wp2_with fail
  refine hall.mono ?_
  rintro e w1 ⟨lk, sb, sb2, rfl, hL1, hb1⟩
  have H1 := Lib.hid hL1
  have B1 := Lib.hid hb1
  obtain ⟨v, hv, ho⟩ := hL1.found
  obtain ⟨A', c', rfl⟩ := own_len ho
  obtain ⟨d0, d1, d3, df, dlt⟩ := hL1.c
  have hlen : fs.length ≤ 16777216 := Nat.le_trans hL1.len hL1.heap.small
  clear hL1 hb1 hall ho
  go_wp2_with fail
  clear d0 d1 d3 df dlt hv
  go_loopw [27, 9] (fun v u wr => ∃ j : Nat, j ≤ fs.length ∧ v = .int .i64 j ∧ u = .int .i64 (sumC cn (fs.take j) : Nat) ∧ Hid (LookAt wr base g gc cap gb gb2 size last w.heap.size lk sb sb2 L ws fs k) ∧ Hid (Below w.heap.size w wr)) (fun v _ _ => fs.length - (intOf v).toNat)
  case atStart => exact ⟨0, Nat.zero_le _, rfl, by simp [sumC], H1, B1⟩
  case round =>
    obtain ⟨j, hj, rfl, rfl, HR, HK⟩ := hrel
    clear H1 B1
    obtain ⟨d0, d1, d3, df, dlt⟩ := HR.out.c
    by_cases hlt : j < fs.length
    · obtain ⟨v, hv, ho⟩ := HR.out.found
      obtain ⟨f, c', rfl, hcell⟩ := own_cellW ho hlt
      have hfl : f < wr.heap.size := World.block_lt_of_cell? wr _ hcell
      obtain ⟨cl, kind, sz, hash, mark, xs, hob, hld, hcn⟩ := HG.out _ (HR.out.isp _ (List.getElem_mem hlt))
      have hcl := HG.out.cn_le (HR.out.isp _ (List.getElem_mem hlt))
      have hsum := sumC_le cn (fs.take j) (fun p hp => HG.out.cn_le (HR.out.isp p (List.mem_of_mem_take hp)))
      rw [List.length_take] at hsum
      have hnext := Lib.hid (sumC_snoc cn (fs.take j) fs[j])
      rw [← List.take_succ_eq_append_getElem hlt] at hnext
      have hhead := fun w' (hw' : HeapAt w' base g gc cap gb gb2 size last L ws) => head_yes (fs[j] / 2) cl kind sz hash mark w' hw' hob.hi hob.isp.2.2.2 (by have := hob.isp.2.1; omega)
      rw [show ((fs[j] / 2 : Nat) : Int) * 2 = (fs[j] : Int) by have := hob.isp.1; omega] at hhead
      have hcells := fun w' => cells_any cl kind sz hash mark w' (by omega) (by have := hob.hi.lt; omega)
      rw [hcn] at hcells
      generalize sumC cn (fs.take j) = s at *
      clear ho hob hld hcn
      generalize fs[j] = p at *
      generalize cn p = n at *
      have hs9 : s ≤ 17592219598848 := by omega
      clear hsum
      go_upto_region 8 with fail
      go_cut [11, 12] (fun v u wx => ∃ b : Nat, v = .pointer (some ⟨b, 0, none⟩) ∧ u = .int .i64 0 ∧ Hid (wx.heap[b]? = some (.cells #[.int .u64 (cl : Int), .int .i64 (kind : Int), .int .i64 (sz : Int), .int .u32 (hash : Int), .bool mark] 52 (0, 0))) ∧ Hid (Below wr.heap.size wr wx))
      case first =>
        clear hcells hnext hcl hs9 HK HG
        have sx : ∀ w' : World, Below wr.heap.size wr w' → (w'.cell? ⟨lk, 0, none⟩ = some (.pointer (some ⟨g, 0, none⟩)) ∧ w'.cell? ⟨lk, 2, none⟩ = some (.slice (some ⟨f, 0, none⟩) fs.length c') ∧ w'.cell? ⟨f, j, none⟩ = some (.int .u64 (p : Int)) ∧ Hid (HeapAt w' base g gc cap gb gb2 size last L ws)) := fun w' hb =>
          ⟨(hb.cell (p := ⟨lk, 0, none⟩) dlt).trans d0, (hb.cell (p := ⟨lk, 2, none⟩) dlt).trans hv, (hb.cell (p := ⟨f, j, none⟩) hfl).trans hcell, Lib.hid (HR.out.heap.below hb)⟩
        have HSx := Lib.hid sx
        clear sx
        go_wp2_with fail
        go_region_held3 (fun w' : World => w'.cell? ⟨lk, 0, none⟩ = some (.pointer (some ⟨g, 0, none⟩)) ∧ w'.cell? ⟨lk, 2, none⟩ = some (.slice (some ⟨f, 0, none⟩) fs.length c') ∧ w'.cell? ⟨f, j, none⟩ = some (.int .u64 (p : Int)) ∧ Hid (HeapAt w' base g gc cap gb gb2 size last L ws))
          (first
            | with_reducible exact HSx.out _ (kS hbk)
            | with_reducible exact HSx.out _ (kA hbk)
            | with_reducible exact HSx.out _ hbk
            | with_reducible exact HSx.out _ k1
            | with_reducible exact HSx.out _ k2
            | with_reducible exact HSx.out _ k2')
          (first
            | (go_at_call 10; (refine (hhead _ ?_).mono ?_); (first | with_reducible exact HR.out.heap.below k1 | with_reducible exact HR.out.heap.below k2 | with_reducible exact HR.out.heap.below k2'); rintro e w2 ⟨rfl, hb2⟩; (first | (have hq := cells_after hb2; have hbk := k3' hb2; obtain ⟨hq1, hq2, hq3⟩ := hq; have hq4 := lt_of_block hq3; have HQ3 := Lib.hid hq3; clear hq3 hq4 hb2) | (have hbk := k3 hb2; clear hb2)); clear dlt hfl d0 d1 d3 df hv hcell hhead hlt hj))
        all_goals (rename_i hK hH; clear hH; refine hK _ _ ?_; clear hK)
        all_goals (go_wp2_with fail)
        all_goals go_meet
        · exact fin_alloc hbk
        · exact fin_set HQ3.out hbk
      case rest =>
        obtain ⟨b, rfl, rfl, HB, HBl⟩ := hcut
        have f5 := cells5 HB.out
        have H3 := Lib.hid (HR.out.keep HBl.out)
        have K3 := Lib.hid (HK.out.trans (HBl.out.mono HR.out.top))
        clear HR HK HBl HB hhead d0 d1 d3 df dlt hv hcell hfl
        go_wp2_with fail
        refine (hcells _).mono ?_
        rintro e w4 ⟨rfl, hb4⟩
        have H4 := Lib.hid (H3.out.keep hb4)
        have K4 := Lib.hid (K3.out.trans (hb4.mono H3.out.top))
        clear hb4 H3 K3 hcells f5
        go_wp2_with fail
        go_roundw
        case rel => exact ⟨j + 1, by omega, by simp, by rw [hnext.out]; simp, H4, K4⟩
        case measure => simp [intOf]; omega
    · have e : j = fs.length := by omega
      subst e
      rw [List.take_length] at *
      have hbl := HR.out.bl
      obtain ⟨bs, hB, hm⟩ := HR.out.bits
      have HBm := Lib.hid (And.intro hB hm)
      clear hB hm
      go_wp2_with fail
      exact bodyPost_ret (v := .tuple #[.pointer (some ⟨sb, 0, none⟩), .int .i64 (sumC cn fs : Nat), .int .i64 0]) (by simp [results, Tryd.results26, go_sem]) rfl ⟨sb, sb2, bs, rfl, hbl.2.1, hbl.2.2, HBm.out.1, HBm.out.2, ⟨HR.out.nd, HR.out.isp⟩, HK.out⟩
end
end Go.Proofs.YtahmljjjdoaahaaDoor.Fl

/-
  What can be reached: Reach of any heap and any roots.
-/
namespace Go.Proofs.YtahmljjjdoaahaaDoor.Fl
open Go.RowKit

/-- what some words lead to -/
inductive Led (ld : Nat → List Nat) (rs : List Nat) : Nat → Prop
  | root {x : Nat} : x ∈ rs → isW x → Led ld rs x
  | step {p x : Nat} : Led ld rs p → x ∈ ld p → isW x → Led ld rs x
theorem Led.mono {ld : Nat → List Nat} {rs rs' : List Nat} {x : Nat} (h : Led ld rs x) (hr : ∀ y ∈ rs, isW y → Led ld rs' y) : Led ld rs' x := by
  induction h with
  | root h1 h2 => exact hr _ h1 h2
  | step _ h2 h3 ih => exact .step ih h2 h3
/-- a list of all that some words lead to -/
structure IsLed (ld : Nat → List Nat) (ws rs fs : List Nat) : Prop where
  good : Good ws fs
  mem : ∀ p, p ∈ fs ↔ Led ld rs p
theorem good_nil (ws : List Nat) : Good ws [] := ⟨by simp, by simp⟩
theorem Waves.isLed {ld : Nat → List Nat} {ws rs fs0 : List Nat} {S : Nat → List Nat × Nat} {T : Nat} (hf : findL ws [] rs = some fs0) (h : Waves ld ws fs0 S T) : IsLed ld ws rs (S T).1 := by
  obtain ⟨a1, a2, _, a4⟩ := findL_good hf (good_nil ws)
  obtain ⟨b1, b2, b3, b4⟩ := h.found a1
  refine ⟨b1, fun p => ⟨fun hp => b4 (Led ld rs) (fun q hq => ?_) (fun q hq x hx hw => .step hq hx hw) p hp, fun hp => ?_⟩⟩
  · rcases a4 q hq with h | ⟨h, hw⟩
    · cases h
    · exact .root h hw
  · induction hp with
    | root h1 h2 => exact b2 _ (a2 _ h1 h2).2
    | step _ h2 h3 ih => exact (b3 _ ih _ h2 h3).2
theorem WavesNo.loose {ld : Nat → List Nat} {ws rs fs0 : List Nat} {S : Nat → List Nat × Nat} {T : Nat} (hf : findL ws [] rs = some fs0) (h : WavesNo ld ws fs0 S T) : ∃ x, Led ld rs x ∧ ¬ isP ws x := by
  obtain ⟨a1, a2, _, a4⟩ := findL_good hf (good_nil ws)
  have key : ∀ t, t ≤ T → Good ws (S t).1 ∧ ∀ p ∈ (S t).1, Led ld rs p := by
    intro t
    induction t with
    | zero =>
      intro _
      rw [h.zero]
      refine ⟨a1, fun q hq => ?_⟩
      rcases a4 q hq with h | ⟨h, hw⟩
      · cases h
      · exact .root h hw
    | succ t ih =>
      intro ht
      obtain ⟨i1, i2⟩ := ih (by omega)
      obtain ⟨s1, s2, s3⟩ := h.step t (by omega)
      obtain ⟨b1, b2, b3, b4⟩ := askL_good s2 i1
      refine ⟨b1, fun p hp => ?_⟩
      rcases b4 p hp with h5 | ⟨q, hq, h6, hw⟩
      · exact i2 p h5
      · exact .step (i2 q (List.mem_of_mem_drop hq)) h6 hw
  obtain ⟨p, hp, x, hx, hw, hn⟩ := askL_loose h.last.2
  exact ⟨x, .step ((key T (Nat.le_refl _)).2 p (List.mem_of_mem_drop hp)) hx hw, hn⟩
theorem good_len {w : World} {base g gc cap gb gb2 size last : Nat} {L ws : List Nat} (h : HeapAt w base g gc cap gb gb2 size last L ws) {fs : List Nat} (hg : Good ws fs) : fs.length ≤ size := by
  have h1 : (fs.map (· / 2)).Nodup := by
    refine List.pairwise_map.2 (hg.1.imp_of_mem ?_)
    intro x y hx hy hne e
    have := (hg.2 x hx).1
    have := (hg.2 y hy).1
    exact hne (by omega)
  have := len_le size _ h1 (fun x hx => by
    obtain ⟨p, hp, rfl⟩ := List.mem_map.1 hx
    exact (hg.2 p hp).lt h)
  simpa using this
section
variable {w w' : World} {base g gc cap gb gb2 size last : Nat} {L ws : List Nat}
def NoReach (w : World) (e : Ending) (w' : World) : Prop := e = .returned (.tuple #[.pointer none, .int .i64 0, .int .i64 13]) ∧ Below w.heap.size w w'
theorem reach_of_all (rs : List Nat) (A : Option Addr) (c : Nat) (w : World) (hall : Calls Tryd.prog 24 #[.pointer (some ⟨g, 0, none⟩), .slice A rs.length c] w (NoPost w)) :
    Calls Tryd.prog 26 #[.pointer (some ⟨g, 0, none⟩), .slice A rs.length c] w (NoReach w) := by
  go_enter Tryd.func26, Tryd.ntmps26
  go_wp2_with fail
  refine hall.mono ?_
  rintro e w1 ⟨rfl, hb1⟩
  have B1 := Lib.hid hb1
  clear hb1 hall
  go_wp2_with fail
  exact bodyPost_ret (v := .tuple #[.pointer none, .int .i64 0, .int .i64 13]) (by simp [results, Tryd.results26, go_sem]) rfl ⟨rfl, B1.out⟩
/-- Reach, of any heap and any roots -/
theorem reach_total {ld : Nat → List Nat} {cn : Nat → Nat} (rs : List Nat) (A : Option Addr) (c : Nat) (w : World) (hG : Graph ld cn L ws) (h : HeapAt w base g gc cap gb gb2 size last L ws) (hr : Rd w w.heap.size A (cw rs)) (hrs : ∀ x ∈ rs, x < 18446744073709551616) (hrl : rs.length ≤ 9223372036854775807) :
    (∃ fs, IsLed ld ws rs fs ∧ Calls Tryd.prog 26 #[.pointer (some ⟨g, 0, none⟩), .slice A rs.length c] w (ReachPost w size (sumC cn fs) ws fs)) ∨
    ((∃ x, Led ld rs x ∧ ¬ isP ws x) ∧ Calls Tryd.prog 26 #[.pointer (some ⟨g, 0, none⟩), .slice A rs.length c] w (NoReach w)) := by
  cases hf : findL ws [] rs with
  | none =>
    obtain ⟨x, hx, hw, hn⟩ := findL_loose hf
    exact .inr ⟨⟨x, .root hx hw, hn⟩, reach_of_all rs A c w (all_none rs A c w h hr hrs hrl hf)⟩
  | some fs0 =>
    obtain ⟨a1, _⟩ := findL_good hf (good_nil ws)
    rcases waves_total (ld := ld) (fun fs hg => good_len h hg) a1 with ⟨T, hS⟩ | ⟨T, hS⟩
    · exact .inl ⟨_, hS.isLed hf, reach_any rs A c w hG h hr hrs hrl hf hS⟩
    · exact .inr ⟨hS.loose hf, reach_of_all rs A c w (all_loose rs A c w hG.leads h hr hrs hrl hf hS)⟩
end
end Go.Proofs.YtahmljjjdoaahaaDoor.Fl

/-
  What can be reached: less leads to less; the order of the words does not matter.
-/
namespace Go.Proofs.YtahmljjjdoaahaaDoor.Fl
open Go.RowKit

theorem sumC_erase (cn : Nat → Nat) : ∀ (l : List Nat) (x : Nat), x ∈ l → sumC cn l = 2 + cn x + sumC cn (l.erase x)
  | [], x, h => by cases h
  | a :: t, x, h => by
    by_cases e : a = x
    · subst e; rw [List.erase_cons_head, sumC]
    · have hx : x ∈ t := by
        rcases List.mem_cons.1 h with h | h
        · exact absurd h.symm e
        · exact h
      rw [List.erase_cons_tail (by simpa using e), sumC, sumC, sumC_erase cn t x hx]; omega
theorem sumC_sub (cn : Nat → Nat) : ∀ (a b : List Nat), a.Nodup → (∀ x ∈ a, x ∈ b) → sumC cn a ≤ sumC cn b
  | [], b, _, _ => by rw [sumC]; exact Nat.zero_le _
  | x :: t, b, hn, h => by
    have hn' := List.nodup_cons.1 hn
    have := sumC_sub cn t (b.erase x) hn'.2 (fun y hy => (List.mem_erase_of_ne (by rintro rfl; exact hn'.1 hy)).2 (h y (by simp [hy])))
    rw [sumC, sumC_erase cn b x (h x (by simp))]; omega
section
variable {ld : Nat → List Nat} {cn : Nat → Nat} {ws rs rs' fs fs' : List Nat}
theorem IsLed.sub (h : IsLed ld ws rs fs) (h' : IsLed ld ws rs' fs') (hr : ∀ y ∈ rs, isW y → Led ld rs' y) : (∀ x ∈ fs, x ∈ fs') ∧ sumC cn fs ≤ sumC cn fs' := by
  have hs : ∀ x ∈ fs, x ∈ fs' := fun x hx => (h'.mem x).2 (((h.mem x).1 hx).mono hr)
  exact ⟨hs, sumC_sub cn fs fs' h.good.1 hs⟩
/-- what is behind something that is led to is led to -/
theorem IsLed.one (h : IsLed ld ws rs fs) {p : Nat} (hp : p ∈ fs) {fs' : List Nat} (h' : IsLed ld ws [p] fs') : (∀ x ∈ fs', x ∈ fs) ∧ sumC cn fs' ≤ sumC cn fs :=
  h'.sub h (fun y hy _ => by rw [List.mem_singleton] at hy; subst hy; exact (h.mem _).1 hp)
/-- behind something that is led to nothing is loose, if nothing is behind all -/
theorem IsLed.tight (h : IsLed ld ws rs fs) {p : Nat} (hp : p ∈ fs) : ¬ ∃ x, Led ld [p] x ∧ ¬ isP ws x := by
  rintro ⟨x, hx, hn⟩
  have : Led ld rs x := hx.mono (fun y hy _ => by rw [List.mem_singleton] at hy; subst hy; exact (h.mem _).1 hp)
  exact hn (h.good.2 x ((h.mem x).2 this))
/-- roots in another order -/
theorem IsLed.same (h : IsLed ld ws rs fs) (h' : IsLed ld ws rs' fs') (h1 : ∀ y, y ∈ rs ↔ y ∈ rs') : (∀ x, x ∈ fs ↔ x ∈ fs') ∧ sumC cn fs = sumC cn fs' := by
  obtain ⟨a, b⟩ := h.sub (cn := cn) h' (fun y hy hw => .root ((h1 y).1 hy) hw)
  obtain ⟨c, d⟩ := h'.sub (cn := cn) h (fun y hy hw => .root ((h1 y).2 hy) hw)
  exact ⟨fun x => ⟨a x, c x⟩, by omega⟩
theorem IsLed.loose (h : IsLed ld ws rs fs) : ¬ ∃ x, Led ld rs x ∧ ¬ isP ws x := by
  rintro ⟨x, hx, hn⟩
  exact hn (h.good.2 x ((h.mem x).2 hx))
end
end Go.Proofs.YtahmljjjdoaahaaDoor.Fl
