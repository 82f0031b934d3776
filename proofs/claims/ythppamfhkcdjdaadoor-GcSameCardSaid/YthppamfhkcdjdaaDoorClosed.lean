/-
  Does all lead to objects? Closed, of any memory.
-/
import Derived.Test.YthppamfhkcdjdaaDoorPDoc
import Derived.Test.YthppamfhkcdjdaaDoorPReach
import Derived.Test.YthppamfhkcdjdaaDoorStand
import Derived.Test.YthppamfhkcdjdaaDoorPHeap
import Derived.Test.YthppamfhkcdjdaaDoorPHead
namespace Go.Proofs.YthppamfhkcdjdaaDoor.Fl
open Go.RowKit

theorem one_cell' {w : World} {g : Nat} {v : Value} {T : TypeId} (h : w.heap[g]? = some (.cells #[v] T (0, 0))) : w.cell? ⟨g, 0, none⟩ = some v ∧ ∀ k, w.frozen? ⟨g, k, none⟩ = false :=
  ⟨cell_of_row _ _ _ _ _ _ h, fun _ => frozen_of_row _ _ _ _ _ h⟩
/-- a word that leads to nothing, or to an object -/
def goodW (ws : List Nat) (x : Nat) : Bool := decide (x = 0 ∨ x % 2 = 1 ∨ isP ws x)
def closedO (ws : List Nat) (o : Ob) : Bool := decide (isP ws o.cl) && (decide (o.kind = 2) || o.xs.all (goodW ws))
def closedB (ws : List Nat) (os : List Ob) : Bool := os.all (closedO ws)
section
variable {w w' : World} {base g gc cap gb gb2 size last : Nat} {L ws : List Nat} {os : List Ob}
theorem hhas_dec (x : Nat) (w : World) (h : HeapAt w base g gc cap gb gb2 size last L ws) (hx : x < 18446744073709551616) :
    Calls Tryd.prog 57 #[.pointer (some ⟨g, 0, none⟩), .int .u64 (x : Int)] w fun e w' => e = .returned (.bool (decide (isP ws x))) ∧ w = w' := by
  by_cases hp : isP ws x
  · have hp' := hp
    obtain ⟨p1, p2, p3, p4⟩ := hp'
    have := hhas_any (x / 2) w h (by omega) (by omega)
    rw [show ((x / 2 : Nat) : Int) * 2 = (x : Int) by omega, p4] at this
    rw [decide_eq_true hp]; exact this
  · rw [decide_eq_false hp]; exact hhas_no x w h hx hp
theorem is_dec (x : Nat) (w : World) (hx : x < 18446744073709551616) :
    Calls Tryd.prog 91 #[.int .u64 (x : Int)] w fun e w' => e = .returned (.bool (decide (x % 2 = 1))) ∧ w = w' := by
  by_cases hp : x % 2 = 1
  · rw [decide_eq_true hp]; exact is_odd _ w (by omega) (by omega) (by omega)
  · rw [decide_eq_false hp]; exact is_even _ w (by omega) (by omega) (by omega)
def ClosedPost (b : Bool) (w : World) (e : Ending) (w' : World) : Prop := e = .returned (.bool b) ∧ Below w.heap.size w w'
def CHead (o : Ob) (w : World) (e : Ending) (w' : World) : Prop := e = .returned (.tuple #[.agg #[.int .u64 (o.cl : Int), .int .i64 (o.kind : Int), .int .i64 (o.sz : Int), .int .u32 (o.hash : Int), .bool o.mark], .int .i64 0]) ∧ Below w.heap.size w w'
theorem ohead_any {k : Nat} (hk : k < os.length) (h : ObsAt w base g gc cap gb gb2 size last os ws) :
    Calls Tryd.prog 14 #[.pointer (some ⟨g, 0, none⟩), .int .u64 (standK os k : Int)] w (CHead os[k] w) := by
  have := head_yes (pos os k) os[k].cl os[k].kind os[k].sz os[k].hash os[k].mark w h.heap (headIn h.ok hk) (h.bit hk) (by have := pos_two os k; omega)
  rw [show (pos os k : Int) * 2 = (standK os k : Int) by unfold standK; rw [if_pos hk]; omega] at this
  exact this
def CGet (x : Nat) (w : World) (e : Ending) (w' : World) : Prop := e = .returned (.tuple #[.int .u64 (x : Int), .int .i64 0]) ∧ Below w.heap.size w w'
theorem oget_any {k j : Nat} (hk : k < os.length) (h : ObsAt w base g gc cap gb gb2 size last os ws) (h2 : os[k].kind ≠ 2) (hj : j < os[k].xs.length) :
    Calls Tryd.prog 15 #[.pointer (some ⟨g, 0, none⟩), .int .u64 (standK os k : Int), .int .i64 (j : Int)] w (CGet os[k].xs[j] w) := by
  have hxs := (h.okAt hk).words h2
  have := get_yes (pos os k) j os[k].cl os[k].kind os[k].sz os[k].hash os[k].xs[j] os[k].mark w h.heap (headIn h.ok hk) (h.bit hk) (by have := pos_two os k; omega) h2 (by omega) (by
    rw [Nat.add_assoc, Lof_at os hk (2 + j) (by omega)]
    show (os[k].cl :: pk _ _ _ _ :: os[k].xs)[2 + j]? = _
    rw [show 2 + j = j + 1 + 1 by omega, List.getElem?_cons_succ, List.getElem?_cons_succ, List.getElem?_eq_getElem hj])
  rw [show (pos os k : Int) * 2 = (standK os k : Int) by unfold standK; rw [if_pos hk]; omega] at this
  exact this
theorem all_take {α : Type} {f : α → Bool} {l : List α} {j : Nat} (hj : j < l.length) : (l.take (j + 1)).all f = ((l.take j).all f && f l[j]) := by
  rw [List.take_succ_eq_append_getElem hj, List.all_append]; simp
theorem all_false {α : Type} {f : α → Bool} {l : List α} {j : Nat} (hj : j < l.length) (h : f l[j] = false) : l.all f = false := by
  rw [List.all_eq_false]
  exact ⟨l[j], List.getElem_mem hj, by simp [h]⟩
set_option maxRecDepth 100000 in
set_option maxHeartbeats 4000000 in
theorem closed1_any {k : Nat} (hk : k < os.length) (h : ObsAt w base g gc cap gb gb2 size last os ws) :
    Calls Tryd.prog 63 #[.agg #[.pointer (some ⟨g, 0, none⟩)], .int .u64 (standK os k : Int)] w (ClosedPost (closedO ws os[k]) w) := by
  have hhd := fun (wx : World) (hx : ObsAt wx base g gc cap gb gb2 size last os ws) => ohead_any hk hx
  have hgt := fun (wx : World) (j : Nat) (hx : ObsAt wx base g gc cap gb gb2 size last os ws) (h2 : os[k].kind ≠ 2) (hj : j < os[k].xs.length) => oget_any hk hx h2 hj
  have hok := h.okAt hk
  have hcl := hok.lt
  have hxl := hok.xlt
  have hwd := hok.words
  have hszl : os[k].sz ≤ 1048576 := by have := (hErr_ok hok.ok).2.1; omega
  have HO := Lib.hid h
  have hbw : Below w.heap.size w (w.alloc (.cells #[.pointer (some ⟨g, 0, none⟩)] 125)) := (Below.refl _ _).alloc (Nat.le_refl _) _
  have HO1 := Lib.hid (h.below hbw)
  generalize os[k] = o at *
  generalize standK os k = P at *
  have HHd := Lib.hid hhd
  have HGt := Lib.hid hgt
  have HXl := Lib.hid hxl
  have HWd := Lib.hid hwd
  have HSz := Lib.hid hszl
  clear h hok hhd hgt hxl hwd hszl hbw
  go_enter Tryd.func63, Tryd.ntmps63
  go_wp2_with fail
  refine (HHd.out _ HO1.out).mono ?_
  rintro e w2 ⟨rfl, hb2⟩
  have hl2 : w2.heap[w.heap.size]? = some (.cells #[.pointer (some ⟨g, 0, none⟩)] 125 (0, 0)) := (hb2.block _ (by simp)).trans (heap_alloc_new w _)
  have HL2 := Lib.hid hl2
  have HLt : Hid (w.heap.size < w2.heap.size) := Lib.hid (lt_of_block hl2)
  have f2 := one_cell' hl2
  have HB2 := Lib.hid (((Below.refl w.heap.size w).alloc (Nat.le_refl _) (.cells #[.pointer (some ⟨g, 0, none⟩)] 125)).trans (hb2.mono (by simp)))
  have HO2 := Lib.hid (HO1.out.below hb2)
  obtain ⟨w3, hw3⟩ : ∃ w3, w2.alloc (.cells #[.int .u64 (o.cl : Int), .int .i64 (o.kind : Int), .int .i64 (o.sz : Int), .int .u32 (o.hash : Int), .bool o.mark] 53) = w3 := ⟨_, rfl⟩
  have hb3 : Below w2.heap.size w2 w3 := by rw [← hw3]; exact (Below.refl _ _).alloc (Nat.le_refl _) _
  have hh3 : w3.heap[w2.heap.size]? = some (.cells #[.int .u64 (o.cl : Int), .int .i64 (o.kind : Int), .int .i64 (o.sz : Int), .int .u32 (o.hash : Int), .bool o.mark] 53 (0, 0)) := by rw [← hw3]; exact heap_alloc_new w2 _
  have HO3 := Lib.hid (HO2.out.below hb3)
  have HB3 := Lib.hid (HB2.out.trans (hb3.mono HB2.out.size))
  have f3 := one_cell' ((hb3.block _ HLt.out).trans HL2.out)
  have g3 := cells5 hh3
  have HL3 := Lib.hid ((hb3.block _ HLt.out).trans HL2.out)
  have hhas := hhas_dec o.cl w3 HO3.out.heap hcl
  clear hb2 hl2 hb3 HO1 HO2 HHd
  go_wp2_with fail
  refine hhas.mono ?_
  rintro e w' ⟨rfl, rfl⟩
  have hpost : ∀ (b : Bool) (wx : World), Below w3.heap.size w3 wx → closedO ws o = b → ClosedPost (closedO ws o) w (.returned (.bool b)) wx := fun b wx hb e => ⟨by rw [e], HB3.out.trans (hb.mono HB3.out.size)⟩
  have HPost := Lib.hid hpost
  clear hhas hpost
  by_cases hp : isP ws o.cl
  · rw [decide_eq_true hp]
    by_cases h2 : o.kind = 2
    · have h0 := Lib.hid (HPost.out true w3 (Below.refl _ _) (by unfold closedO; simp [hp, h2]))
      have h2' : ((o.kind : Int) == 2) = true := by simp [h2]
      clear hp h2
      go_wp2_with fail
      go_ret
      exact h0.out
    · have h2' : ((o.kind : Int) == 2) = false := by simp; omega
      have hsz : o.xs.length = o.sz := HWd.out h2
      have HCl : Hid (closedO ws o = o.xs.all (goodW ws)) := Lib.hid (by unfold closedO; simp [hp, h2])
      have HK2 := Lib.hid h2
      have HSl := Lib.hid hsz
      have hszl := HSz.out
      clear hp h2 hsz f2
      go_wp2_with fail
      go_loopw [28] (fun v wx => ∃ j : Nat, v = .int .i64 (j : Int) ∧ j ≤ o.sz ∧ Hid ((o.xs.take j).all (goodW ws) = true) ∧ Hid (Below w3.heap.size w3 wx)) (fun v _ => o.sz - (intOf v).toNat)
      case atStart => exact ⟨0, rfl, Nat.zero_le _, Lib.hid (by simp), Lib.hid (Below.refl _ _)⟩
      case round =>
        obtain ⟨j, rfl, hj, HA, HB⟩ := hrel
        have HOx := Lib.hid (HO3.out.below HB.out)
        have hfx := one_cell' ((HB.out.block _ (lt_of_block HL3.out)).trans HL3.out)
        by_cases hlt : j < o.sz
        · have hjx : j < o.xs.length := by rw [HSl.out]; exact hlt
          have hget := HGt.out wr j HOx.out HK2.out hjx
          have hx := HXl.out _ (List.getElem_mem hjx)
          have hall := Lib.hid (all_take (f := goodW ws) hjx)
          have hbad := Lib.hid (fun h => all_false (f := goodW ws) hjx h)
          generalize o.xs[j] = x at *
          have HX := Lib.hid hx
          clear hx hjx
          clear f3
          go_wp2_with fail
          refine hget.mono ?_
          rintro e w4 ⟨rfl, hb4⟩
          have HB4 := Lib.hid (HB.out.trans (hb4.mono HB.out.size))
          have HO4 := Lib.hid (HOx.out.below hb4)
          have f4 := one_cell' ((hb4.block _ (lt_of_block ((HB.out.block _ (lt_of_block HL3.out)).trans HL3.out))).trans ((HB.out.block _ (lt_of_block HL3.out)).trans HL3.out))
          have his := is_dec x w4 HX.out
          have hhs := hhas_dec x w4 HO4.out.heap HX.out
          clear hget hb4 HOx hfx HB
          by_cases hx0 : x = 0
          · have hne : ((x : Int) != 0) = false := by simp [hx0]
            have HG : Hid (((o.xs.take (j + 1)).all (goodW ws)) = true) := Lib.hid (by rw [hall.out, HA.out]; unfold goodW; simp [hx0])
            clear hx0 his hhs hall hbad
            go_wp2_with fail
            go_roundw
            case rel => exact ⟨j + 1, by simp, hlt, HG, HB4⟩
            case measure => simp [intOf]; omega
          · have hne : ((x : Int) != 0) = true := by simp; omega
            go_wp2_with fail
            refine his.mono ?_
            rintro e w' ⟨rfl, rfl⟩
            by_cases hxo : x % 2 = 1
            · have HG : Hid (((o.xs.take (j + 1)).all (goodW ws)) = true) := Lib.hid (by rw [hall.out, HA.out]; unfold goodW; simp [hxo])
              rw [decide_eq_true hxo]
              clear hx0 hxo hhs hall hbad his
              go_wp2_with fail
              go_roundw
              case rel => exact ⟨j + 1, by simp, hlt, HG, HB4⟩
              case measure => simp [intOf]; omega
            · rw [decide_eq_false hxo]
              clear his
              go_wp2_with fail
              refine hhs.mono ?_
              rintro e w' ⟨rfl, rfl⟩
              by_cases hxp : isP ws x
              · have HG : Hid (((o.xs.take (j + 1)).all (goodW ws)) = true) := Lib.hid (by rw [hall.out, HA.out]; unfold goodW; simp [hxp])
                rw [decide_eq_true hxp]
                clear hx0 hxo hxp hall hbad hhs
                go_wp2_with fail
                go_roundw
                case rel => exact ⟨j + 1, by simp, hlt, HG, HB4⟩
                case measure => simp [intOf]; omega
              · have hgf : goodW ws x = false := by unfold goodW; simp [hxp, hx0]; omega
                have h0 := Lib.hid (HPost.out false w4 HB4.out (by rw [HCl.out]; exact hbad.out hgf))
                rw [decide_eq_false hxp]
                clear hx0 hxo hxp hall hbad hhs hgf
                go_wp2_with fail
                go_ret
                exact h0.out
        · have e : j = o.sz := by omega
          have h0 := Lib.hid (HPost.out true wr HB.out (by rw [HCl.out, ← HA.out, e, List.take_of_length_le (by rw [HSl.out]; exact Nat.le_refl _)]))
          clear e hfx f3
          go_wp2_with fail
          go_ret
          exact h0.out
  · have h0 := Lib.hid (HPost.out false w3 (Below.refl _ _) (by unfold closedO; simp [hp]))
    rw [decide_eq_false hp]
    clear hp
    go_wp2_with fail
    go_ret
    exact h0.out
set_option maxRecDepth 100000 in
set_option maxHeartbeats 4000000 in
theorem closed_any (h : ObsAt w base g gc cap gb gb2 size last os ws) (hB : base ≤ w.heap.size) :
    Calls Tryd.prog 27 #[.pointer (some ⟨g, 0, none⟩)] w (ClosedPost (closedB ws os) w) := by
  have HO := Lib.hid h
  have HBs := Lib.hid hB
  clear h hB
  go_enter Tryd.func27, Tryd.ntmps27
  obtain ⟨w1, hw1⟩ : ∃ w1, w.alloc (.cells #[.pointer (some ⟨g, 0, none⟩)] 125) = w1 := ⟨_, rfl⟩
  have hb1 : Below w.heap.size w w1 := by rw [← hw1]; exact (Below.refl _ _).alloc (Nat.le_refl _) _
  have HL1 : Hid (w1.heap[w.heap.size]? = some (.cells #[.pointer (some ⟨g, 0, none⟩)] 125 (0, 0))) := Lib.hid (by rw [← hw1]; exact heap_alloc_new w _)
  have HO1 := Lib.hid (HO.out.below hb1)
  have HB1 := Lib.hid hb1
  have f1 := one_cell' HL1.out
  have hfi := ofirst_any HO1.out
  clear hb1
  go_wp2_with fail
  refine hfi.mono ?_
  rintro e w' ⟨rfl, rfl⟩
  clear hfi f1 hw1
  go_wp2_with fail
  go_loopw [4] (fun p wx => ∃ k, k ≤ os.length ∧ p = .int .u64 (standK os k : Int) ∧ Hid ((os.take k).all (closedO ws) = true) ∧ Hid (Below w1.heap.size w1 wx)) (fun p _ => leftK os p)
  case atStart => exact ⟨0, Nat.zero_le _, rfl, Lib.hid (by simp), Lib.hid (Below.refl _ _)⟩
  case round =>
    obtain ⟨k, hk, rfl, HA, HB⟩ := hrel
    have HOx := Lib.hid (HO1.out.below HB.out)
    have hlx := (HB.out.block _ (lt_of_block HL1.out)).trans HL1.out
    have hfx := one_cell' hlx
    have hbs : base ≤ wr.heap.size := by have := HBs.out; have := HB1.out.size; have := HB.out.size; omega
    by_cases hlt : k < os.length
    · have hne : ((standK os k : Int) != 0) = true := by rw [standK_lt hlt]; have := pos_two os k; simp; omega
      have hcl := closed1_any hlt HOx.out
      have hall := Lib.hid (all_take (f := closedO ws) hlt)
      have hbad := Lib.hid (fun h => all_false (f := closedO ws) hlt h)
      have HMs := Lib.hid (leftK_step hlt)
      have haf := fun (wx : World) (hx : ObsAt wx base g gc cap gb gb2 size last os ws) (hb : base ≤ wx.heap.size) => oafter_any hlt hb hx
      rw [show (pos os k : Int) * 2 = (standK os k : Int) by rw [standK_lt hlt]; omega] at haf
      obtain ⟨b, hb⟩ : ∃ b, closedO ws os[k] = b := ⟨_, rfl⟩
      rw [hb] at hcl hall hbad
      have HAf := Lib.hid haf
      clear hb haf
      go_wp2_with fail
      refine hcl.mono ?_
      rintro e w2 ⟨rfl, hb2⟩
      have HB2 := Lib.hid (HB.out.trans (hb2.mono HB.out.size))
      have HO2 := Lib.hid (HOx.out.below hb2)
      have f2 := one_cell' ((hb2.block _ (lt_of_block hlx)).trans hlx)
      have hbs2 := Nat.le_trans hbs hb2.size
      clear hcl hb2 hfx
      cases b with
      | false =>
        have h0 : Hid (ClosedPost (closedB ws os) w (.returned (.bool false)) w2) := Lib.hid ⟨by unfold closedB; rw [hbad.out rfl], HB1.out.trans (HB2.out.mono HB1.out.size)⟩
        go_wp2_with fail
        go_ret
        exact h0.out
      | true =>
        have HG : Hid ((os.take (k + 1)).all (closedO ws) = true) := Lib.hid (by rw [hall.out, HA.out]; rfl)
        go_wp2_with fail
        refine (HAf.out _ HO2.out hbs2).mono ?_
        rintro e w3 ⟨rfl, hb3⟩
        have HB3 := Lib.hid (HB2.out.trans (hb3.mono HB2.out.size))
        clear hb3
        go_wp2_with fail
        go_roundw
        case rel => exact ⟨k + 1, hlt, rfl, HG, HB3⟩
        case measure => exact HMs.out
    · have hz : (standK os k : Int) = 0 := by rw [standK_end (by omega)]; rfl
      have h0 : Hid (ClosedPost (closedB ws os) w (.returned (.bool true)) wr) := Lib.hid ⟨by unfold closedB; have := HA.out; rw [List.take_of_length_le (by omega)] at this; rw [this], HB1.out.trans (HB.out.mono HB1.out.size)⟩
      rw [hz]
      clear hz hlt hk
      go_wp2_with fail
      go_ret
      exact h0.out
end
end Go.Proofs.YthppamfhkcdjdaaDoor.Fl
