/-
  Collect: what can't be reached goes; what stays, moved.
-/
import Derived.Test.YtahmljjjdoaahaaDoorPGLaid
import Derived.Test.YtahmljjjdoaahaaDoorLoad
import Derived.Test.YtahmljjjdoaahaaDoorPReach
namespace Go.Proofs.YtahmljjjdoaahaaDoor.Fl
open Go.RowKit

theorem turnO_clean {gl : Nat → Nat} {o : Ob} (h : CleanO o) : CleanO (turnO gl o) := by
  intro hk h8
  have hk' : o.kind = 2 := hk
  obtain ⟨h0, h1⟩ := h hk' h8
  have e : (turnO gl o).xs = o.xs := by unfold turnO; exact if_pos hk'
  refine ⟨by rw [e]; exact h0, ?_⟩
  rw [List.getElem_of_eq e, show (turnO gl o).sz = o.sz from rfl]
  simp only [e]
  exact h1
set_option maxHeartbeats 1000000 in
theorem clone_ha (ws : List Nat) (c : Nat) (ad : Addr) (w : World) (hr : Rd w w.heap.size (some ad) (cw ws)) (hl : ws.length ≤ 16777216) :
    Calls Tryd.prog 31 #[.slice (some ad) ws.length c] w (RowPost ws w) := by
  have HR := Lib.hid ((hr.below ((Below.refl w.heap.size w).alloc (Nat.le_refl _) (.cells #[] 38)) (Nat.le_refl _)).more (B' := (w.alloc (.cells #[] 38)).heap.size) (by simp))
  clear hr
  have q22 : ∀ (w : World) (a : Option Addr) (n c n' c' : Nat), (binOp .eql 44 (.slice a n c) (.slice none n' c')).run Tryd.prog w = .ok (.bool a.isNone) w := fun w a n c n' c' => Lib.run_eql_slice_nil w _ _ a n c n' c' Tryd.underlying44
  obtain ⟨i0, hi, hz0, hz1, hz2⟩ := info_parts wordinfo
  have HI := Lib.hid (And.intro hi (And.intro hz0 (And.intro hz1 hz2)))
  clear hi hz0 hz1 hz2
  have HL := Lib.hid hl
  clear hl
  go_enter Tryd.func31, Tryd.ntmps31
  go_wp2_with (at_builtin; refine wpList_append_rd (base := w.heap.size) (size := 1) (bytes := 8) (n := 0) (m := ws.length) (c := c) (v := .slice (some ⟨w.heap.size, 0, none⟩) 0 0) (xs := []) rfl _ _ rfl Tryd.underlying44 HI.out.1 HI.out.2.1 HI.out.2.2.1 HI.out.2.2.2 rfl (by decide) rfl rfl (own_void w 38 1 w.heap.size (Nat.le_refl _)) HR.out (by rw [cw_len]; omega) (fun h => by cases h) (cw_one ws) (by have := HL.out; unfold maxLen; omega) (by have := HL.out; omega) (by simp) ?_; intro v' w2 happ; obtain ⟨A2, c2, hv, _, _⟩ := happ.slice; subst hv; have HAp := Lib.hid happ; clear happ)
  go_ret
  have h := HAp.out
  rw [Nat.zero_add] at h
  exact ⟨A2, c2, rfl, by have := h.own; rwa [Nat.zero_add, List.nil_append] at this, h.below ((Below.refl _ _).alloc (Nat.le_refl _) _) (fun k hk => by simp [Value.ownBlock] at hk; omega)⟩
section
variable {base g gc cap gb gb2 size last : Nat} {os : List Ob} {ws fs : List Nat} {xs : List (Kx os fs)}
theorem mem_moved {o : Ob} (ho : o ∈ moved os (ksOf xs)) : ∃ k, ∃ hk : k < os.length, o = turnO (goal os (ksOf xs)) os[k] := by
  unfold moved at ho
  obtain ⟨o', ho', rfl⟩ := List.mem_map.1 ho
  rw [sub_ks] at ho'
  obtain ⟨x, _, rfl⟩ := List.mem_map.1 ho'
  exact ⟨x.1, x.2.1, rfl⟩
theorem clone_total (rs : List Nat) (c : Nat) (A : Option Addr) (w : World) (hr : Rd w w.heap.size A (cw rs)) (hA : A = none → rs.length = 0) (hl : rs.length ≤ 16777216) :
    Calls Tryd.prog 31 #[.slice A rs.length c] w fun e w' => (∃ b c', e = .returned (.slice (some ⟨b, 0, none⟩) rs.length c') ∧ OwnH w' w.heap.size (.slice (some ⟨b, 0, none⟩) rs.length c') rs ∧ Below w.heap.size w w') ∨ (rs = [] ∧ (∃ A' c', e = .returned (.slice A' 0 c')) ∧ Below w.heap.size w w') := by
  cases A with
  | none =>
    have h0 := hA rfl
    have h1 : rs = [] := List.eq_nil_of_length_eq_zero h0
    subst h1
    have q22 : ∀ (w : World) (a : Option Addr) (n c n' c' : Nat), (binOp .eql 44 (.slice a n c) (.slice none n' c')).run Tryd.prog w = .ok (.bool a.isNone) w := fun w a n c n' c' => Lib.run_eql_slice_nil w _ _ a n c n' c' Tryd.underlying44
    clear hr hA hl h0
    go_enter Tryd.func31, Tryd.ntmps31
    go_wp2_with fail
    go_ret
    exact .inr ⟨trivial, ⟨none, 0, rfl⟩, Below.refl _ _⟩
  | some a =>
    refine (clone_ha rs c a w hr hl).mono ?_
    rintro e w' ⟨A, c', rfl, ho, hb⟩
    rcases ho.2 with ⟨e1, e2⟩ | ⟨g', cap', cur, e1, hb', hg, hn, hm, hs', ht⟩
    · injection e1 with e1 _ e3
      subst e1
      have h1 : rs = [] := List.eq_nil_of_length_eq_zero e2
      subst h1
      exact .inr ⟨rfl, ⟨none, c', rfl⟩, hb⟩
    · have e4 := e1
      injection e4 with e4 _ e5
      subst e4 e5
      exact .inl ⟨g', _, rfl, ho, hb⟩
theorem turn_zero {lk : Nat} (A : Option Addr) (c : Nat) (w : World) :
    Calls Tryd.prog 32 #[.pointer (some ⟨lk, 0, none⟩), .slice A 0 c] w fun e w' => e = .returned (.tuple #[]) ∧ w = w' := by
  go_enter Tryd.func32, Tryd.ntmps32
  go_wp2_with fail
  go_loopw [9] (fun v wr => v = .int .i64 0 ∧ wr = w) (fun _ _ => 0)
  case atStart => exact ⟨rfl, rfl⟩
  case round =>
    obtain ⟨rfl, rfl⟩ := hrel
    go_wp2_with fail
    exact bodyPost_end (results_none rfl _ _ _) rfl ⟨rfl, rfl⟩
theorem obs_copy {w4 W5 : World} {B g' gc' cap' gb' gb2' base g size last : Nat} {os' : List Ob} {ws' : List Nat} (h : ObsAt w4 B g' gc' cap' gb' gb2' size last os' ws') (ho : One g w4 W5) (hd : W5.heap[g]? = some (.cells #[.int .i64 (size : Int), .slice (some ⟨gc', 0, none⟩) (Lof os').length cap', .pointer (some ⟨gb', 0, none⟩), .int .u32 (last : Int)] 74 (0, 0))) (_hB : base ≤ B) (hg : base ≤ g) (hlt : g < B) :
    ObsAt W5 base g gc' cap' gb' gb2' size last os' ws' := by
  obtain ⟨cur, hgc, hb, hn, hm, hs, ht⟩ := h.heap.row
  have h1 := h.heap.bb
  have h2 := h.heap.bb2
  exact ⟨⟨hd, ⟨h.heap.own.1, .inr ⟨gc', cap', cur, rfl, by omega, (ho.block _ (by omega)).trans hgc, hn, hm, by omega, by rw [Nat.mul_one]; exact ht⟩⟩, h.heap.bits.at_ (ho.block _ (by omega)) (ho.block _ (by omega)), hg, by omega, by omega, h.heap.two, h.heap.room, h.heap.lt⟩, h.set, h.ok⟩
/-- a row of words where a heap's cells have changed -/
theorem Rd.heap {w w' : World} {B g : Nat} {A : Option Addr} {rs : List Nat} {size last gc n c gb : Nat} (hr : Rd w B A (cw rs)) (h : w.heap[g]? = some (.cells #[.int .i64 (size : Int), .slice (some ⟨gc, 0, none⟩) n c, .pointer (some ⟨gb, 0, none⟩), .int .u32 (last : Int)] 74 (0, 0))) (hc : Ch2 g g w w') (hB : B ≤ w.heap.size) : Rd w' B A (cw rs) := by
  rcases hr with hr | ⟨b, off, e, hb, hcl⟩
  · exact .inl hr
  · by_cases h0 : rs = []
    · subst h0; exact .inl rfl
    · have hne : b ≠ g := fun e2 => by
        subst e2
        obtain ⟨x, t, rfl⟩ := List.exists_cons_of_ne_nil h0
        have := hcl 0 _ rfl
        rw [cell_of_row _ _ _ _ _ _ h] at this
        match off, this with
        | 0, h => simp at h
        | 1, h => simp at h
        | 2, h => simp at h
        | 3, h => simp at h
        | n + 4, h => simp at h
      exact .inr ⟨b, off, e, hb, fun j v hj => (World.cell?_of_block (a := ⟨b, off + j, none⟩) (hc.block b (by omega) hne hne)).trans (hcl j v hj)⟩
/-- what Collect leaves -/
structure Coll (base g size : Nat) (os' : List Ob) (rs' : List Nat) (A' : Option Addr) (w w' : World) : Prop where
  obs : ∃ gc cap gb gb2 ws, ObsAt w' base g gc cap gb gb2 size 0 os' ws
  rd : Rd w' w'.heap.size A' (cw rs')
  nil : A' = none → rs'.length = 0
  ch : Ch2 g g w w'
def CollPost (base g size : Nat) (os' : List Ob) (rs' : List Nat) (w : World) (e : Ending) (w' : World) : Prop := ∃ A' c', e = .returned (.tuple #[.slice A' rs'.length c', .int .i64 0]) ∧ Coll base g size os' rs' A' w w'
/-- a heap becomes another one: its four cells -/
theorem copy_heap {w : World} {g size last gc n c gb : Nat} (h : w.heap[g]? = some (.cells #[.int .i64 (size : Int), .slice (some ⟨gc, 0, none⟩) n c, .pointer (some ⟨gb, 0, none⟩), .int .u32 (last : Int)] 74 (0, 0))) (v0 v1 v2 v3 : Value) :
    One g w ((((w.setCell ⟨g, 0, none⟩ v0).setCell ⟨g, 1, none⟩ v1).setCell ⟨g, 2, none⟩ v2).setCell ⟨g, 3, none⟩ v3) ∧ ((((w.setCell ⟨g, 0, none⟩ v0).setCell ⟨g, 1, none⟩ v1).setCell ⟨g, 2, none⟩ v2).setCell ⟨g, 3, none⟩ v3).heap[g]? = some (.cells #[v0, v1, v2, v3] 74 (0, 0)) := by
  refine ⟨((((One.refl g w).setCell 0 v0).setCell 1 v1).setCell 2 v2).setCell 3 v3, ?_⟩
  have s0 : (w.setCell ⟨g, 0, none⟩ v0).heap[g]? = some (.cells #[v0, _, _, _] 74 (0, 0)) := heap_setCell_same w g 0 _ _ v0 h
  have s1 := heap_setCell_same _ g 1 _ _ v1 s0
  have s2 := heap_setCell_same _ g 2 _ _ v2 s1
  exact heap_setCell_same _ g 3 _ _ v3 s2
set_option maxRecDepth 100000 in
set_option maxHeartbeats 400000 in
theorem collect_any {fs0 : List Nat} {S : Nat → List Nat × Nat} {T : Nat} (rs : List Nat) (A : Option Addr) (c : Nat) (w : World) (h : ObsAt w base g gc cap gb gb2 size 0 os ws) (he : EnvB w) (hB : base ≤ w.heap.size) (h16 : 16 ≤ size) (hr : Rd w w.heap.size A (cw rs)) (hA : A = none → rs.length = 0) (hrs : ∀ x ∈ rs, x < 18446744073709551616) (hrl : rs.length ≤ 16777216)
    (hf : findL ws [] rs = some fs0) (hS : Waves (ldOf os) ws fs0 S T) (hfs : (S T).1 = fs) (hst : Stays os fs xs) (hcl : ClosedF os fs) (hrt : ∀ x ∈ rs, isW x → x ∈ fs)
    (hsm : (Lof os).length ≤ 400) (hpos : ∀ o ∈ os, 0 < o.xs.length) (hcn : ∀ o ∈ os, CleanO o) (hh : ∀ o ∈ os, o.hash = 0) :
    Calls Tryd.prog 11 #[.pointer (some ⟨g, 0, none⟩), .slice A rs.length c] w (CollPost base g size (moved os (ksOf xs)) (rs.map (goal os (ksOf xs))) w) := by
  have hre := reach_any rs A c w h.graph h.heap hr hrs (by omega) hf hS
  rw [hfs] at hre
  clear hfs hf hS
  have hsm' := h.heap.small
  have hle := Lof_sub_le hst
  have hml := moved_len_le xs
  have hroom := h.heap.room
  have hsh : Shut os (ksOf xs) := fun k hk hk2 y hy hw => (hst.kept y).1 (hcl k hk ((hst.kept _).2 ⟨k, hk2, rfl⟩) y hy hw)
  have hmo := moved_ok hst.ks hsh h.ok (by omega)
  have HMc : Hid (∀ o ∈ moved os (ksOf xs), CleanO o) := Lib.hid fun o ho => by
    obtain ⟨k, hk, rfl⟩ := mem_moved ho
    exact turnO_clean (hcn _ (List.getElem_mem hk))
  have HMh : Hid (∀ o ∈ moved os (ksOf xs), o.hash = 0) := Lib.hid fun o ho => by
    obtain ⟨k, hk, rfl⟩ := mem_moved ho
    show os[k].hash = 0
    exact hh _ (List.getElem_mem hk)
  have HM := Lib.hid hmo
  have H := Lib.hid h
  have HE := Lib.hid he
  have HR := Lib.hid hr
  have HS := Lib.hid hst
  have HC := Lib.hid hcl
  have HP := Lib.hid hpos
  have HRt := Lib.hid hrt
  have HRs := Lib.hid hrs
  have HA := Lib.hid hA
  clear h he hr hst hcl hpos hrt hrs hcn hh hmo hsh hA
  go_enter Tryd.func11, Tryd.ntmps11
  go_wp2_with fail
  refine hre.mono ?_
  rintro e w1 ⟨sb, sb2, bs, rfl, hsb, hsb2, hBt, hbm, hgd, hb1⟩
  have hsum : sumC (cnOf os) fs = (flat (sub os (ksOf xs))).length := sum_kept HS.out.ks hgd.1 HS.out.kept
  have HO1 := Lib.hid (H.out.below hb1)
  have HE1 := Lib.hid (HE.out.below hb1)
  have HF1 : Hid (Found w1 sb size fs) := Lib.hid ⟨sb2, bs, hBt, hbm⟩
  have HB1 := Lib.hid hb1
  obtain ⟨n, hn⟩ : ∃ n, sumC (cnOf os) fs = n := ⟨_, rfl⟩
  rw [hn] at hsum ⊢
  have hn400 : n ≤ 400 := by have : (Lof (sub os (ksOf xs))).length = (flat (sub os (ksOf xs))).length + 2 := rfl; omega
  have hpl := plan_any w1 HO1.out HF1.out HE1.out HS.out hsm
  have HSum := Lib.hid hsum
  have HMl := Lib.hid hml
  clear hre hb1 hsb hsb2 hBt hbm hgd hn hsum hml
  go_wp2_with fail
  refine hpl.mono ?_
  rintro e w2 ⟨lk, gG, G, rfl, hL, hG, hGl, hgo, hlk, hgG, hb2⟩
  have HO2 := Lib.hid (HO1.out.below hb2)
  have HE2 := Lib.hid (HE1.out.below hb2)
  have HF2 := Lib.hid (HF1.out.below hb2)
  have HB2 := Lib.hid (HB1.out.trans (hb2.mono HB1.out.size))
  have HL := Lib.hid hL
  have HG := Lib.hid hG
  have HGl := Lib.hid hGl
  have HGo := Lib.hid hgo
  have hld := laid_any n G w1.heap.size w2 HO2.out HF2.out HE2.out HS.out HC.out hsm (by omega) HL.out HG.out HGl.out HGo.out HP.out
  have hce := cellsH_any w2 HO2.out.heap
  have hla := lastH_any w2 HO2.out.heap
  clear hpl hL hG hGl hgo hb2
  go_wp2_with (first
    | (go_at_call 29; (with_reducible refine hce.mono ?_); rintro e w' ⟨rfl, rfl⟩)
    | (go_at_call 9; (with_reducible refine hla.mono ?_); rintro e w' ⟨rfl, rfl⟩))
  refine hld.mono ?_
  rintro e w3 ⟨bl, cl, rfl, hOl, hb3⟩
  have HB3 := Lib.hid (HB2.out.trans (hb3.mono HB2.out.size))
  have hlo : Calls Tryd.prog 28 #[.int .i64 (size : Int), .int .u32 0, .slice (some ⟨bl, 0, none⟩) (flat (moved os (ksOf xs))).length cl] w3 (LoadPost (moved os (ksOf xs)) size w3) :=
    load_ok (os := moved os (ksOf xs)) cl _ w3 h16 hsm' (by have := HMl.out; omega) (ownH_rd hOl) (fun h => by cases h) (fun x hx => by
      have h1 : x = 0 ∨ x ∈ flat (moved os (ksOf xs)) := by
        unfold Lof at hx
        simp only [List.mem_cons] at hx
        rcases hx with rfl | rfl | hx
        · exact .inl rfl
        · exact .inl rfl
        · exact .inr hx
      rcases h1 with rfl | hx
      · decide
      · unfold flat at hx
        obtain ⟨o, ho, hxo⟩ := List.mem_flatMap.1 hx
        have hok := HM.out o ho
        unfold Ob.cells at hxo
        simp only [List.mem_cons] at hxo
        rcases hxo with rfl | rfl | hxo
        · exact hok.lt
        · exact (by have h9 := hErr_ok hok.ok; exact pk_lt (by omega) (by omega) (by omega))
        · exact hok.xlt _ hxo) HM.out HMc.out HMh.out
  have HL3 : Hid (GLook w3 lk g sb gG (Lof os).length) := Lib.hid ((hb3.block _ (lt_of_block HL.out)).trans HL.out)
  have HG3 := Lib.hid (HG.out.keep fun k cur hc => hb3.block k (lt_of_block hc))
  have HO3 := Lib.hid (HO2.out.below hb3)
  clear hld hce hla hb3 hOl HL HG HO2 HE2 HF2 HB2
  go_wp2_with fail
  refine hlo.mono ?_
  rintro e w4 ⟨g', gc', cap', gb', gb2', ws', rfl, hob4, hb4⟩
  have HOb4 := Lib.hid hob4
  have HO4 := Lib.hid (HO3.out.below hb4)
  have HB4 := Lib.hid (HB3.out.trans (hb4.mono HB3.out.size))
  have HL4 : Hid (GLook w4 lk g sb gG (Lof os).length) := Lib.hid ((hb4.block _ (lt_of_block HL3.out)).trans HL3.out)
  have HG4 := Lib.hid (HG3.out.keep fun k cur hc => hb4.block k (lt_of_block hc))
  have f' := cells4' hob4.heap.hd
  have f := cells4' HO4.out.heap.hd
  have HS3 : Hid (w1.heap.size ≤ w3.heap.size ∧ w.heap.size ≤ w1.heap.size) := Lib.hid ⟨by have h1 := lt_of_block HL3.out; omega, HB1.out.size⟩
  clear hlo hob4 hb4 HL3 HG3 HO3 HB3
  go_wp2_with fail
  obtain ⟨hone, hd5⟩ := copy_heap (size := size) (last := 0) (gc := gc) (n := (Lof os).length) (c := cap) (gb := gb) HO4.out.heap.hd (.int .i64 (size : Int)) (.slice (some ⟨gc', 0, none⟩) (Lof (moved os (ksOf xs))).length cap') (.pointer (some ⟨gb', 0, none⟩)) (.int .u32 0)
  obtain ⟨W5, hW5⟩ : ∃ W5, ((((w4.setCell ⟨g, 0, none⟩ (.int .i64 (size : Int))).setCell ⟨g, 1, none⟩ (.slice (some ⟨gc', 0, none⟩) (Lof (moved os (ksOf xs))).length cap')).setCell ⟨g, 2, none⟩ (.pointer (some ⟨gb', 0, none⟩))).setCell ⟨g, 3, none⟩ (.int .u32 0)) = W5 := ⟨_, rfl⟩
  rw [hW5] at hone hd5 ⊢
  clear hW5 f' f
  have hgw := H.out.heap.gl.1
  have HOb5 := Lib.hid (obs_copy (base := base) (last := 0) HOb4.out hone (by rw [hd5]; rfl) (by have := HS3.out; omega) H.out.heap.bg (by have := HS3.out; omega))
  have HCh5 : Hid (Ch2 g g w W5) := Lib.hid (((Ch2.refl g g w).below HB4.out).one hone (.inl rfl))
  have hr5 := HR.out.heap H.out.heap.hd HCh5.out (Nat.le_refl _)
  have hS3 := HS3.out
  have HL5 : Hid (GLook W5 lk g sb gG (Lof os).length) := Lib.hid ((hone.block _ (by omega)).trans HL4.out)
  have HG5 := Lib.hid (ownH_at HG4.out (hone.block gG (by omega)))
  have hcl := clone_total rs c A W5 (hr5.more HCh5.out.size) HA.out hrl
  clear hone hd5 hr5 HOb4 HO4 HB4 HL4 HG4
  refine hcl.mono ?_
  rintro e w6 (⟨b, c6, rfl, hO6, hb6⟩ | ⟨hnil, ⟨A6, c6, rfl⟩, hb6⟩)
  · have HO6 := Lib.hid hO6
    have HOb6 := Lib.hid (HOb5.out.below hb6)
    have HCh6 := Lib.hid (HCh5.out.below hb6)
    have hL6 : GLook w6 lk g sb gG (Lof os).length := (hb6.block _ (lt_of_block HL5.out)).trans HL5.out
    have hG6 := HG5.out.keep fun k cur hc => hb6.block k (lt_of_block hc)
    have hbW : W5.heap.size ≤ b := by
      rcases hO6.2 with ⟨e, _⟩ | ⟨g', cap', cur, e, hb', hg, _⟩
      · cases e
      · injection e with e1
        injection e1 with e1
        injection e1 with e1
        subst e1
        exact hb'
    have hgG5 : gG < W5.heap.size := by
      rcases HG5.out.2 with ⟨e, _⟩ | ⟨g', cap', cur, e, _, hg, _⟩
      · cases e
      · injection e with e1
        injection e1 with e1
        injection e1 with e1
        subst e1
        exact lt_of_block hg
    have hlenR : 0 + rs.length ≤ rs.length := by omega
    have htu := fun (c : Nat) => turn_any (n := rs.length) rs G b 0 c6 c W5.heap.size w1.heap.size w6 hL6 hG6 HGl.out HGo.out hO6 hlenR (by omega) (fun y hy => by
      obtain ⟨k, hk, rfl⟩ := HS.out.led y hy
      have := pos_top os hk
      omega) (fun i hi _ _ => ⟨HRs.out _ (List.getElem_mem hi), fun hw => HRt.out _ (List.getElem_mem hi) hw⟩) hrl
    have hTn : turnL (goal os (ksOf xs)) 0 rs.length rs = rs.map (goal os (ksOf xs)) := by
      unfold turnL
      rw [List.take_zero, List.nil_append, List.drop_zero, List.take_length, Nat.zero_add, List.drop_length, List.append_nil]
    rw [hTn] at htu
    clear hcl hO6 hb6 hL6 hG6 HL5 HG5 hlenR hTn
    go_wp2_with fail
    refine (htu _).mono ?_
    rintro e w7 ⟨rfl, hO7, h17⟩
    have HO7 := Lib.hid hO7
    have h7l : (rs.map (goal os (ksOf xs))).length = rs.length := List.length_map _
    have HOb7 : Hid (ObsAt w7 base g gc' cap' gb' gb2' size 0 (moved os (ksOf xs)) ws') := Lib.hid (by
      have hgl := HOb5.out.heap.gl
      exact ⟨HOb6.out.heap.at_ (h17.block _ (by omega)) (h17.block _ (by omega)) (h17.block _ (by omega)) (h17.block _ (by omega)), HOb6.out.set, HOb6.out.ok⟩)
    have HCh7 : Hid (Ch2 g g w w7) := Lib.hid (HCh6.out.one h17 (by have := HCh5.out.size; omega))
    have H7l := Lib.hid h7l
    clear hO7 h17 htu h7l
    go_wp2_with fail
    go_ret2
    refine ⟨some ⟨b, 0, none⟩, c6, ?_, ⟨⟨gc', cap', gb', gb2', ws', HOb7.out⟩, ownH_rd HO7.out, fun h => (by cases h), HCh7.out⟩⟩
    rw [H7l.out]
    rfl
  · subst hnil
    have HOb6 := Lib.hid (HOb5.out.below hb6)
    have HCh6 := Lib.hid (HCh5.out.below hb6)
    have htu := turn_zero (lk := lk) A6 c6 w6
    clear hcl hb6 HL5 HG5
    go_wp2_with fail
    refine htu.mono ?_
    rintro e w7 ⟨rfl, rfl⟩
    clear htu
    go_wp2_with fail
    go_ret2
    exact ⟨A6, c6, rfl, ⟨⟨gc', cap', gb', gb2', ws', HOb6.out⟩, .inl rfl, fun _ => rfl, HCh6.out⟩⟩
end
end Go.Proofs.YtahmljjjdoaahaaDoor.Fl

/-
  Order: what is reached, as it is first led to; the same behind a collection.
-/
namespace Go.Proofs.YtahmljjjdoaahaaDoor.Fl
open Go.RowKit

section
variable {base g gc cap gb gb2 size last : Nat} {L : List Nat} {os : List Ob} {ws fs : List Nat}
def OrdPost (fs : List Nat) (w : World) (e : Ending) (w' : World) : Prop := ∃ A c', e = .returned (.tuple #[.slice A fs.length c', .int .i64 0]) ∧ Rd w' w'.heap.size A (cw fs) ∧ (A = none → fs.length = 0) ∧ Below w.heap.size w w'
def NoOrd (w : World) (e : Ending) (w' : World) : Prop := e = .returned (.tuple #[.slice none 0 0, .int .i64 13]) ∧ Below w.heap.size w w'
theorem order_any {ld : Nat → List Nat} {fs0 : List Nat} {S : Nat → List Nat × Nat} {T : Nat} (rs : List Nat) (A : Option Addr) (c : Nat) (w : World) (hG : Leads ld L ws) (h : HeapAt w base g gc cap gb gb2 size last L ws) (hr : Rd w w.heap.size A (cw rs)) (hrs : ∀ x ∈ rs, x < 18446744073709551616) (hrl : rs.length ≤ 9223372036854775807) (hf : findL ws [] rs = some fs0) (hS : Waves ld ws fs0 S T) :
    Calls Tryd.prog 8 #[.pointer (some ⟨g, 0, none⟩), .slice A rs.length c] w (OrdPost (S T).1 w) := by
  have hall := all_any rs A c w hG h hr hrs hrl hf hS
  clear hG hS h hr hrs hf hrl
  generalize (S T).1 = fs at *
  generalize (S T).2 = k at *
  go_enter Tryd.func8, Tryd.ntmps8
  go_wp2_with fail
  refine hall.mono ?_
  rintro e w1 ⟨lk, sb, sb2, rfl, hL1, hb1⟩
  obtain ⟨v, hv, ho⟩ := hL1.hd
  have B1 := Lib.hid hb1
  obtain ⟨A', c', rfl⟩ := own_len ho
  have f := cells4' hv
  have HR := Lib.hid (ownH_rd ho)
  have HN : Hid (A' = none → fs.length = 0) := Lib.hid fun h => by
    rcases ho.2 with ⟨_, e⟩ | ⟨g', cap', cur, e, _⟩
    · exact e
    · injection e with e
      rw [h] at e; cases e
  clear hL1 hb1 hall ho hv
  go_wp2_with fail
  go_ret2
  exact ⟨A', c', rfl, HR.out, HN.out, B1.out⟩
theorem order_of_all (rs : List Nat) (A : Option Addr) (c : Nat) (w : World) (hall : Calls Tryd.prog 24 #[.pointer (some ⟨g, 0, none⟩), .slice A rs.length c] w (NoPost w)) :
    Calls Tryd.prog 8 #[.pointer (some ⟨g, 0, none⟩), .slice A rs.length c] w (NoOrd w) := by
  go_enter Tryd.func8, Tryd.ntmps8
  go_wp2_with fail
  refine hall.mono ?_
  rintro e w1 ⟨rfl, hb1⟩
  have B1 := Lib.hid hb1
  clear hb1 hall
  go_wp2_with fail
  go_ret2
  exact ⟨rfl, B1.out⟩
/-- all that is known of what some words lead to, nothing being loose -/
structure Found0 (os : List Ob) (ws rs : List Nat) (fs0 : List Nat) (S : Nat → List Nat × Nat) (T : Nat) (fs : List Nat) : Prop where
  find : findL ws [] rs = some fs0
  waves : Waves (ldOf os) ws fs0 S T
  all : (S T).1 = fs
  led : IsLed (ldOf os) ws rs fs
theorem Found0.closed {rs fs0 : List Nat} {S : Nat → List Nat × Nat} {T : Nat} (h : Found0 os ws rs fs0 S T fs) : ClosedF os fs := fun k hk hm y hy hw =>
  (h.led.mem y).2 (.step ((h.led.mem _).1 hm) (by rw [ldOf_pos os hk]; exact hy) hw)
theorem Found0.roots {rs fs0 : List Nat} {S : Nat → List Nat × Nat} {T : Nat} (h : Found0 os ws rs fs0 S T fs) (x : Nat) (hx : x ∈ rs) (hw : isW x) : x ∈ fs := (h.led.mem x).2 (.root hx hw)
/-- whatever the roots: all that is led to is found, or something is loose: Reach, Order and Collect tell -/
theorem find_total {rs : List Nat} {w : World} (h : ObsAt w base g gc cap gb gb2 size last os ws) :
    (∃ fs0 S T fs, Found0 os ws rs fs0 S T fs) ∨
    ((∃ x, Led (ldOf os) rs x ∧ ¬ isP ws x) ∧ ∀ (w' : World) (A : Option Addr) (c : Nat), ObsAt w' base g gc cap gb gb2 size last os ws → Rd w' w'.heap.size A (cw rs) → (∀ x ∈ rs, x < 18446744073709551616) → rs.length ≤ 9223372036854775807 →
      Calls Tryd.prog 24 #[.pointer (some ⟨g, 0, none⟩), .slice A rs.length c] w' (NoPost w')) := by
  cases hf : findL ws [] rs with
  | none =>
    obtain ⟨x, hx, hw, hn⟩ := findL_loose hf
    exact .inr ⟨⟨x, .root hx hw, hn⟩, fun w' A c h' hr hrs hrl => all_none rs A c w' h'.heap hr hrs hrl hf⟩
  | some fs0 =>
    obtain ⟨a1, _⟩ := findL_good hf (good_nil ws)
    rcases waves_total (ld := ldOf os) (fun fs hg => good_len h.heap hg) a1 with ⟨T, hS⟩ | ⟨T, hS⟩
    · exact .inl ⟨fs0, _, T, _, hf, hS, rfl, hS.isLed hf⟩
    · exact .inr ⟨hS.loose hf, fun w' A c h' hr hrs hrl => all_loose rs A c w' h'.graph.leads h'.heap hr hrs hrl hf hS⟩
end
section
variable {os : List Ob} {ws fs : List Nat} {xs : List (Kx os fs)}
theorem isP_congr {ws ws' : List Nat} {os : List Ob} (h : ∀ p, isP ws p ↔ ∃ k, k < os.length ∧ p = 2 * pos os k) (h' : ∀ p, isP ws' p ↔ ∃ k, k < os.length ∧ p = 2 * pos os k) (p : Nat) : isP ws p ↔ isP ws' p := (h p).trans (h' p).symm
theorem Stays.shut (hst : Stays os fs xs) (hcl : ClosedF os fs) : Shut os (ksOf xs) := fun k hk hk2 y hy hw => (hst.kept y).1 (hcl k hk ((hst.kept _).2 ⟨k, hk2, rfl⟩) y hy hw)
/-- behind a collection the same is found, moved -/
theorem Found0.moved {rs fs0 ws' : List Nat} {S : Nat → List Nat × Nat} {T : Nat} (h : Found0 os ws rs fs0 S T fs) (hst : Stays os fs xs) (hp : ∀ p, isP ws' p ↔ ∃ k, k < (moved os (ksOf xs)).length ∧ p = 2 * pos (Fl.moved os (ksOf xs)) k) :
    Found0 (Fl.moved os (ksOf xs)) ws' (rs.map (goal os (ksOf xs))) (fs0.map (goal os (ksOf xs))) (fun t => ((S t).1.map (goal os (ksOf xs)), (S t).2)) T (fs.map (goal os (ksOf xs))) ∧ Moves (goal os (ksOf xs)) (Kept os (ksOf xs)) (ldOf os) (ldOf (Fl.moved os (ksOf xs))) ws ws' := by
  have hm := moved_moves hst.ks (hst.shut h.closed) (ws := ws) hp
  have hk : ∀ x ∈ rs, isW x → Kept os (ksOf xs) x := fun x hx hw => (hst.kept x).1 (h.roots x hx hw)
  obtain ⟨f1, f2⟩ := hm.findL (fs := []) (fun p hp => by cases hp) hk h.find
  obtain ⟨g1, g2⟩ := hm.waves f2 h.waves
  have e : ((S T).1.map (goal os (ksOf xs))) = fs.map (goal os (ksOf xs)) := by rw [h.all]
  exact ⟨⟨f1, g1, e, by rw [← e]; exact g1.isLed f1⟩, hm⟩
/-- memory that is collected is closed -/
theorem moved_closed {ws' : List Nat} (hst : Stays os fs xs) (hcl : ClosedF os fs) (hok : ∀ o ∈ os, o.Ok) (hp : ∀ p, isP ws' p ↔ ∃ k, k < (moved os (ksOf xs)).length ∧ p = 2 * pos (moved os (ksOf xs)) k) : closedB ws' (moved os (ksOf xs)) = true := by
  have hm := moved_moves hst.ks (hst.shut hcl) (ws := []) hp
  have hin : ∀ y ∈ fs, isP ws' (goal os (ksOf xs) y) := fun y hy => (hm.ptr y ((hst.kept y).1 hy)).2
  unfold closedB
  rw [List.all_eq_true]
  intro o ho
  unfold moved at ho
  obtain ⟨o', ho', rfl⟩ := List.mem_map.1 ho
  rw [sub_ks] at ho'
  obtain ⟨x, _, rfl⟩ := List.mem_map.1 ho'
  have hc := hcl x.1 x.2.1 x.2.2
  have hok' := hok _ (List.getElem_mem x.2.1)
  generalize os[x.1]'x.2.1 = q at *
  unfold closedO
  have h1 : isP ws' (goal os (ksOf xs) q.cl) := hin _ (hc q.cl (by unfold Ob.leads; simp) (by have := (hErr_ok hok'.ok).1; unfold isW; omega))
  rw [show (turnO (goal os (ksOf xs)) q).cl = goal os (ksOf xs) q.cl from rfl, decide_eq_true h1, Bool.true_and]
  by_cases h2 : q.kind = 2
  · rw [show (turnO (goal os (ksOf xs)) q).kind = q.kind from rfl, decide_eq_true h2]; rfl
  · rw [show (turnO (goal os (ksOf xs)) q).kind = q.kind from rfl, decide_eq_false h2, Bool.false_or, List.all_eq_true]
    intro y hy
    have e : (turnO (goal os (ksOf xs)) q).xs = q.xs.map (goal os (ksOf xs)) := by unfold turnO; exact if_neg h2
    rw [e] at hy
    obtain ⟨z, hz, rfl⟩ := List.mem_map.1 hy
    unfold goodW
    refine decide_eq_true ?_
    by_cases hw : isW z
    · exact .inr (.inr (hin _ (hc z (by unfold Ob.leads; rw [if_neg h2]; simp [hz]) hw)))
    · rw [goal_num z hw]
      rcases Decidable.not_not.1 hw with h | h
      · exact .inl h
      · exact .inr (.inl h)
end
end Go.Proofs.YtahmljjjdoaahaaDoor.Fl
