/-
  A graph laid in both heaps.
-/
import Derived.Test.YtahmljjjdoaahaaDoorPDocF
import Derived.Test.YtahmljjjdoaahaaDoorPMem
namespace Go.Proofs.YtahmljjjdoaahaaDoor.Fl
open Go.RowKit

set_option maxHeartbeats 1000000 in
theorem rnew_200 (w : World) :
    Calls Tryd.prog 15 #[.int .i64 200] w fun e w' => e = .returned (.tuple #[.agg #[.int .i64 200, .slice none 0 0, .int .u32 0], .bool true]) ∧ Below w.heap.size w w' := by
  go_enter Tryd.func15, Tryd.ntmps15
  go_wp2_with fail
  have hR : (w.alloc (.cells #[.int .i64 200, .slice none 0 0, .int .u32 0] 31)).heap[w.heap.size]? = some (.cells #[.int .i64 200, .slice none 0 0, .int .u32 0] 31 (0, 0)) := heap_alloc_new w _
  have hB : Below w.heap.size w (w.alloc (.cells #[.int .i64 200, .slice none 0 0, .int .u32 0] 31)) := (Below.refl _ _).alloc (Nat.le_refl _) _
  generalize w.alloc (.cells #[.int .i64 200, .slice none 0 0, .int .u32 0] 31) = wf at hR hB ⊢
  obtain ⟨q0, q1, q2, _⟩ := cells3 hR
  exact bodyPost_ret (v := .tuple #[.agg #[.int .i64 200, .slice none 0 0, .int .u32 0], .bool true]) (by simp [results, Tryd.results15, go_sem, q0, q1, q2]) rfl ⟨rfl, hB⟩
theorem ints_at {w : World} {B : Nat} {A : Option Addr} {cs : List Int} (h : Rd w B A (cs.map (Value.int .i64))) {k : Nat} (hk : k < cs.length) :
    ∃ b off, A = some ⟨b, off, none⟩ ∧ b < B ∧ w.cell? ⟨b, off + k, none⟩ = some (.int .i64 cs[k]) := by
  obtain ⟨b, off, hA, hb, hc⟩ := h.at_ (k := k) (by simpa using hk)
  exact ⟨b, off, hA, hb, by simpa using hc⟩
theorem vI {a b : Int} (h : a = b) : Value.int .i64 a = .int .i64 b := by rw [h]
/-- how many cells an object of three has -/
def kc (k : Nat) : Nat := if k = 2 then 1 else 3
theorem kc_le (k : Nat) : kc k ≤ 3 := by unfold kc; split <;> omega
theorem kc_cells (cl k : Nat) (h : hErr cl k 3 0 = 0) : cellsI cl k 3 0 = (kc k : Int) := by
  unfold cellsI kc
  rw [if_pos h]
  by_cases e : k = 2
  · rw [if_pos e, if_pos (by omega)]; rfl
  · rw [if_neg e, if_neg (by omega)]; rfl
theorem three_ok (cl k : Nat) (h1 : cl % 2 = 0) (h2 : cl ≠ 0) (hk : k ≤ 2) : hErr cl k 3 0 = 0 := by
  unfold hErr
  rw [if_neg (by omega), if_neg (by omega), if_neg (by omega), if_neg (by omega)]
theorem lcells_any (k : Nat) (w : World) (hk : k ≤ 2) :
    Calls Tryd.prog 16 #[.int .i64 (k : Int), .int .i64 3] w fun e w' => e = .returned (.int .i64 (kc k : Int)) ∧ Below w.heap.size w w' := by
  have hc := fun w' => rcells_any ((2 : Nat) : Int) k 3 0 false w' (by decide) (by decide)
  rw [kc_cells 2 k (three_ok 2 k (by decide) (by decide) hk)] at hc
  go_enter Tryd.func16, Tryd.ntmps16
  go_wp2_with fail
  refine (hc _).mono ?_
  rintro e w1 ⟨rfl, hb1⟩
  go_wp2_with fail
  go_ret
  exact ⟨rfl, hb1⟩
theorem kind_of (z : Int) : ∃ K : Nat, (wrap64 (z.tmod 3 + 3)).tmod 3 = (K : Int) ∧ K ≤ 2 := by
  have h : -3 < z.tmod 3 ∧ z.tmod 3 < 3 := by
    rcases Int.le_total 0 z with h | h
    · rw [Int.tmod_eq_emod_of_nonneg h]; omega
    · obtain ⟨y, rfl⟩ : ∃ y, z = -y := ⟨-z, by omega⟩
      rw [Int.neg_tmod, Int.tmod_eq_emod_of_nonneg (by omega)]; omega
  have hw : wrap64 (z.tmod 3 + 3) = z.tmod 3 + 3 := by unfold wrap64; omega
  rw [hw, Int.tmod_eq_emod_of_nonneg (by omega)]
  exact ⟨((z.tmod 3 + 3) % 3).toNat, by omega, by omega⟩
def badB (x : Nat) : Bool := decide (x % 2 = 1 ∨ x = 0)
/-- what is laid: objects of three, none with a hash or a mark -/
structure LaidOk (os : List Ob) (j : Nat) : Prop where
  len : os.length = j
  cells : (Lof os).length ≤ 2 + 5 * j
  each : ∀ o ∈ os, o.hash = 0 ∧ o.mark = false ∧ o.sz = 3 ∧ (o.kind = 2 → o.xs = [0])
theorem LaidOk.snoc {os : List Ob} {j cl k fill : Nat} (h : LaidOk os j) (hk : k ≤ 2) : LaidOk (os ++ [newOb cl k 3 (kc k) fill]) (j + 1) := by
  refine ⟨by simp [h.len], ?_, fun o ho => ?_⟩
  · rw [Lof_snoc, List.length_append, Ob.cells_len]
    have h1 := h.cells
    have h2 := kc_le k
    unfold newOb
    simp only [List.length_replicate]
    omega
  · rcases List.mem_append.1 ho with ho | ho
    · exact h.each o ho
    · rw [List.mem_singleton] at ho
      subst ho
      refine ⟨rfl, rfl, rfl, fun e => ?_⟩
      have e : k = 2 := e
      subst e; rfl
theorem LaidOk.put {os : List Ob} {j i k x : Nat} (h : LaidOk os j) (hi : i < os.length) (h2 : os[i].kind ≠ 2) : LaidOk (os.set i (putOb os[i] k x)) j := by
  refine ⟨by rw [List.length_set]; exact h.len, ?_, fun o ho => ?_⟩
  · rw [← pos_all, List.length_set, flat_set_len hi (by unfold putOb; simp), pos_all]; exact h.cells
  · rcases List.mem_or_eq_of_mem_set ho with h1 | h1
    · exact h.each o h1
    · obtain ⟨a1, a2, a3, _⟩ := h.each _ (List.getElem_mem hi)
      rw [h1]
      exact ⟨a1, a2, a3, fun e => absurd e h2⟩
/-- both heaps of a graph, in memory -/
structure Laid (w w' : World) (lo base g gc cap gb gb2 : Nat) (A : Option Addr) (ws : List Nat) (os : List Ob) : Prop where
  obs : ObsAt w' base g gc cap gb gb2 200 0 os ws
  doc : DocAt w' lo w'.heap.size A os
  lt : g < lo ∧ gb < lo ∧ gb2 < lo ∧ lo ≤ w'.heap.size
  base : w.heap.size ≤ base
  below : Below w.heap.size w w'
def LayPost (w : World) (e : Ending) (w' : World) : Prop := ∃ (lo base g gc cap gb gb2 c : Nat) (A : Option Addr) (ws : List Nat) (os : List Ob) (j : Nat), e = .returned (.tuple #[.pointer (some ⟨g, 0, none⟩), .agg #[.int .i64 200, .slice A os.length c, .int .u32 0], .bool true]) ∧ Laid w w' lo base g gc cap gb gb2 A ws os ∧ LaidOk os j ∧ j ≤ 14
theorem LayS.fin {w0 wr : World} {lo base g gc cap gb gb2 G R W PL NX lk ck cL cp c n : Nat} {AK AL Ap A : Option Addr} {zs : List Int} {ls ps ws : List Nat} {os ds : List Ob} (h : LayS w0 wr lo base g gc cap gb gb2 w0.heap.size G R W PL NX lk ck cL cp c n AK AL Ap A zs ls ps ws os ds) (hp : LayP lo base g gb gb2 w0.heap.size G R W PL NX) (e : os = ds) :
    Laid w0 (((wr.setCell ⟨R, 0, none⟩ (.int .i64 200)).setCell ⟨R, 1, none⟩ (.slice A ds.length c)).setCell ⟨R, 2, none⟩ (.int .u32 0)).drew lo base g gc cap gb gb2 A ws os ∧ (((wr.setCell ⟨R, 0, none⟩ (.int .i64 200)).setCell ⟨R, 1, none⟩ (.slice A ds.length c)).setCell ⟨R, 2, none⟩ (.int .u32 0)).drew.heap[R]? = some (.cells #[.int .i64 200, .slice A ds.length c, .int .u32 0] 31 (0, 0)) := by
  obtain ⟨w', hw'⟩ : ∃ w', (((wr.setCell ⟨R, 0, none⟩ (.int .i64 200)).setCell ⟨R, 1, none⟩ (.slice A ds.length c)).setCell ⟨R, 2, none⟩ (.int .u32 0)).drew = w' := ⟨_, rfl⟩
  have hW : w'.heap[R]? = some (.cells #[.int .i64 200, .slice A ds.length c, .int .u32 0] 31 (0, 0)) := by
    rw [← hw']
    exact heap_setCell_same _ R 2 _ _ (.int .u32 0) (heap_setCell_same _ R 1 _ _ (.slice A ds.length c) (heap_setCell_same wr R 0 _ _ (.int .i64 200) h.bR))
  have hs : One R wr w' := by
    rw [← hw']
    exact ⟨rfl, rfl, rfl, by show (((wr.setCell _ _).setCell _ _).setCell _ _).heap.size = _; simp [World.setCell], fun k hk => (Below.heap_setCell _ _ _ k hk).trans ((Below.heap_setCell _ _ _ k hk).trans (Below.heap_setCell _ _ _ k hk))⟩
  rw [hw']
  have hk : ∀ (b : Nat) (T : TypeId) (cs : Array Value), T ≠ 31 → wr.heap[b]? = some (.cells cs T (0, 0)) → w'.heap[b]? = wr.heap[b]? := fun b T cs h1 hb => hs.block b (other_type hb h.bR h1)
  have hB : Below w0.heap.size wr w' := hs.below hp.lR
  obtain ⟨cur, hcur, _⟩ := h.obs.heap.row
  obtain ⟨curb, hcb, _⟩ := h.obs.heap.bits.wd
  obtain ⟨cc, hb1⟩ := h.obs.heap.bits.hd
  have hD : KeepD wr w' lo wr.heap.size := fun T b cur' hT _ _ hc => hk b T cur' (by rcases hT with rfl | rfl | rfl <;> decide) hc
  exact ⟨⟨⟨h.obs.heap.at_ (hk _ _ _ (by decide) h.obs.heap.hd) (hk _ _ _ (by decide) hcur) (hk _ _ _ (by decide) hb1) (hk _ _ _ (by decide) hcb), h.obs.set, h.obs.ok⟩, by rw [e]; exact (h.doc.keepD hD).more (Nat.le_of_eq hs.size.symm), ⟨hp.lg, hp.lgb, hp.lgb2, by rw [hs.size]; exact h.size⟩, hp.lbase, h.bel.trans hB⟩, hW⟩
set_option maxRecDepth 100000 in
set_option maxHeartbeats 4000000 in
theorem lay_any (AK AL : Option Addr) (zs : List Int) (ls : List Nat) (ck cL : Nat) (w : World) (hk : Rd w w.heap.size AK (zs.map (Value.int .i64))) (hl : Rd w w.heap.size AL (cw ls)) (hkl : zs.length ≤ ck) (hck : ck ≤ 9223372036854775807) (hll : ls.length ≤ 9223372036854775807)
    (hkw : ∀ z ∈ zs, (Lit.int .i64 z).wf = true) (hlw : ∀ x ∈ ls, x < 18446744073709551616) :
    Calls Tryd.prog 5 #[.agg #[.slice AK zs.length ck, .slice AL ls.length cL]] w (LayPost w) := by
  have hnew := fun (w' : World) => new_ok 200 w' (by decide) (by decide)
  have p0 : ((w.alloc (.cells #[.slice AK zs.length ck, .slice AL ls.length cL] 25)).alloc (.cells #[.int .i64 0, .slice none 0 0, .int .u32 0] 31)).heap[w.heap.size]? = some (.cells #[.slice AK zs.length ck, .slice AL ls.length cL] 25 (0, 0)) := (heap_alloc_old _ _ (by simp)).trans (heap_alloc_new w _)
  have p1 : ((w.alloc (.cells #[.slice AK zs.length ck, .slice AL ls.length cL] 25)).alloc (.cells #[.int .i64 0, .slice none 0 0, .int .u32 0] 31)).heap[w.heap.size + 1]? = some (.cells #[.int .i64 0, .slice none 0 0, .int .u32 0] 31 (0, 0)) := by
    have e : (w.alloc (.cells #[.slice AK zs.length ck, .slice AL ls.length cL] 25)).heap.size = w.heap.size + 1 := by simp
    rw [← e]; exact heap_alloc_new _ _
  have hb2 : Below w.heap.size w ((w.alloc (.cells #[.slice AK zs.length ck, .slice AL ls.length cL] 25)).alloc (.cells #[.int .i64 0, .slice none 0 0, .int .u32 0] 31)) := ((Below.refl _ _).alloc (Nat.le_refl _) _).alloc (by simp) _
  have hs2 : ((w.alloc (.cells #[.slice AK zs.length ck, .slice AL ls.length cL] 25)).alloc (.cells #[.int .i64 0, .slice none 0 0, .int .u32 0] 31)).heap.size = w.heap.size + 2 := by simp
  have P0 := Lib.hid p0
  have P1 := Lib.hid p1
  have B2 := Lib.hid hb2
  have S2 := Lib.hid hs2
  have HKr := Lib.hid hk
  have HLr := Lib.hid hl
  have HKw := Lib.hid hkw
  have HLw := Lib.hid hlw
  clear p0 p1 hb2 hs2 hk hl hkw hlw
  go_enter Tryd.func5, Tryd.ntmps5
  go_wp2_with fail
  refine (hnew _).mono ?_
  rintro e w1 ⟨g, gc, gb, gb2, rfl, h1, hb1⟩
  rw [S2.out] at h1
  have q0 := (hb1.block w.heap.size (by rw [S2.out]; omega)).trans P0.out
  have q1 := (hb1.block (w.heap.size + 1) (by rw [S2.out]; omega)).trans P1.out
  have s1 := hb1.size
  rw [S2.out] at s1
  have B1 := Lib.hid (B2.out.trans (hb1.mono (by rw [S2.out]; omega)))
  have H1 := Lib.hid h1
  have Q0 := Lib.hid q0
  have Q1 := Lib.hid q1
  clear h1 hb1 q0 q1 P0 P1 B2 S2 hnew
  go_wp2_with fail
  refine (rnew_200 _).mono ?_
  rintro e w2 ⟨rfl, hb2⟩
  have q0 := (hb2.block _ (lt_of_block Q0.out)).trans Q0.out
  have q1 := (hb2.block _ (lt_of_block Q1.out)).trans Q1.out
  have B3 := Lib.hid (B1.out.trans (hb2.mono (by omega)))
  have H2 := Lib.hid (H1.out.below hb2)
  have HG := Lib.hid H1.out.gl
  have s2 := hb2.size
  have Q0 := Lib.hid q0
  have Q1 := Lib.hid q1
  clear hb2 q0 q1 H1 B1
  have f0 := two Q0.out
  have f1 := cells3 Q1.out
  have l0 := lt_of_block Q0.out
  have l1 := lt_of_block Q1.out
  have hm : min zs.length 14 ≤ 14 := Nat.min_le_right _ _
  obtain ⟨m, hmz⟩ : ∃ m, min zs.length 14 = m := ⟨_, rfl⟩
  rw [hmz] at hm
  have HM := Lib.hid hmz
  clear hmz
  go_upto_if 45 with fail
  obtain ⟨w3, hw3⟩ : ∃ w3, w2.alloc (.cells #[.int .i64 200, .slice none 0 0, .int .u32 0] 31) = w3 := ⟨_, rfl⟩
  have W3 := Lib.hid (show w3.heap[w2.heap.size]? = some (.cells #[.int .i64 200, .slice none 0 0, .int .u32 0] 31 (0, 0)) by rw [← hw3]; exact heap_alloc_new _ _)
  have hb3 : Below w2.heap.size w2 w3 := by rw [← hw3]; exact (Below.refl _ _).alloc (Nat.le_refl _) _
  have s3 : w3.heap.size = w2.heap.size + 1 := by rw [← hw3]; simp
  rw [hw3]
  clear hw3
  go_cut [9] (fun v wx => ∃ c', v = .slice AK m c' ∧ w3 = wx)
  case first =>
    by_cases hz : 14 < zs.length
    · have e1 : m = 14 := by have := HM.out; omega
      subst e1
      have hck2 : 14 ≤ ck := by omega
      have hd : decide (14 < (zs.length : Int)) = true := by simp; omega
      clear f0 f1
      go_wp2_with fail
      all_goals go_meet
      all_goals exact ⟨_, rfl, rfl⟩
    · have e1 : m = zs.length := by have := HM.out; omega
      subst e1
      clear f0 f1
      go_wp2_with fail
      go_meet
      exact ⟨_, rfl, rfl⟩
  case rest =>
    obtain ⟨c', rfl, rfl⟩ := hcut
    -- what stood ahead of the places
    have hmz : m ≤ zs.length := by have := HM.out; omega
    have hg := HG.out
    have q0 := (hb3.block _ l0).trans Q0.out
    have q1 := (hb3.block _ l1).trans Q1.out
    have B4 := Lib.hid (B3.out.trans (hb3.mono (by omega)))
    have H3 := Lib.hid (H2.out.below hb3)
    have Q0 := Lib.hid q0
    have Q1 := Lib.hid q1
    have HK3 := Lib.hid (HKr.out.below B4.out (Nat.le_refl _))
    have HL3 := Lib.hid (HLr.out.below B4.out (Nat.le_refl _))
    have b2 : g < w2.heap.size ∧ gb < w2.heap.size ∧ gb2 < w2.heap.size := by omega
    clear q0 q1 H2 B3 hb3 HKr HLr HG f0 f1 l0 l1 hg
    obtain ⟨lo, hlo⟩ : ∃ lo, w3.heap.size = lo := ⟨_, rfl⟩
    rw [s3] at hlo
    have hlo' : w2.heap.size < lo := by omega
    have HLo := Lib.hid (s3.trans hlo)
    clear s3 hlo
    go_wp2_with fail
    have hvoid := Lib.hid (show OwnW (w3.alloc (.cells #[.slice none 0 0] 23)) (lo + 1) (.slice none 0 0) [] from ownw_nil _ _)
    have hP0 := Lib.hid (show (w3.alloc (.cells #[.slice none 0 0] 23)).heap[w3.heap.size]? = some (.cells #[.slice none ([] : List Nat).length 0] 23 (0, 0)) from heap_alloc_new w3 _)
    have hBP := Lib.hid (show Below w3.heap.size w3 (w3.alloc (.cells #[.slice none 0 0] 23)) from (Below.refl _ _).alloc (Nat.le_refl _) _)
    rw [HLo.out] at hP0 hBP ⊢
    go_loopw [10, 50] (fun a i wr => ∃ (j at_ : Nat) (ps : List Nat) (Ap : Option Addr) (cp : Nat), j ≤ m ∧ i = .int .i64 j ∧ a = .int .i64 at_ ∧ at_ ≤ 2 + 5 * j ∧ Hid (ps.length = j ∧ (∀ x ∈ ps, x < 18446744073709551616) ∧ (j = 0 → at_ = 2) ∧ (0 < j → ps[0]? = some 4)) ∧
      Hid (wr.heap[lo]? = some (.cells #[.slice Ap ps.length cp] 23 (0, 0))) ∧ Hid (OwnW wr (lo + 1) (.slice Ap ps.length cp) ps) ∧ Hid (Below lo w3 wr) ∧ lo < wr.heap.size) (fun _ i _ => m - (intOf i).toNat)
    case atStart => exact ⟨0, 2, [], none, 0, Nat.zero_le _, rfl, rfl, by omega, Lib.hid ⟨rfl, by simp, fun _ => rfl, by simp⟩, hP0, hvoid, hBP, by simp; have := HLo.out; omega⟩
    case round =>
      obtain ⟨j, at_, ps, Ap, cp, hj, rfl, rfl, hat, HPs, HBox, HOw, HBl, hlw⟩ := hrel
      have p1 := one_cell HBox.out
      by_cases hlt : j < m
      · obtain ⟨b, off, rfl, hb, hcell⟩ := ints_at (HK3.out.below (HBl.out.mono (by omega)) (Nat.le_refl _)) (k := j) (by omega)
        obtain ⟨K, hK, hK2⟩ := kind_of zs[j]
        have HKe := Lib.hid hK
        clear hK
        have hk0 := kc_le K
        have hcl := fun w' => lcells_any K w' hK2
        obtain ⟨i0, hi0, hz0, hz1, hz2⟩ := info_parts u64info
        have HI := Lib.hid (And.intro hi0 (And.intro hz0 (And.intro hz1 hz2)))
        have hpl : ps.length ≤ 14 := by have := HPs.out.1; omega
        clear hi0 hz0 hz1 hz2
        go_upto_region 13 with fail
        rw [HKe.out]
        clear HKe
        have hat2 : at_ ≤ 72 := by omega
        go_wp2_with (at_builtin; refine wpList_append_own _ rfl _ _ 23 rfl (lo + 1) 37 i0 (.int .u64 0) 1 8 Tryd.underlying23 HI.out.1 HI.out.2.1 HI.out.2.2.1 HI.out.2.2.2 rfl (by decide) _ _ _ rfl (World.ownsRow.alloc HOw.out _) ⟨wr.heap.size, 0, none⟩ 1 1 [.int .u64 (2 * (at_ : Int))] rfl rfl ?c1 ?c2 ?c3 ?c4 ?c5 ?_)
        case c1 => exact lone_cell wr _ _
        case c2 => intro u hu; simp at hu; subst hu; rfl
        case c3 => unfold maxLen; omega
        case c4 => omega
        case c5 => simp; omega
        intro v' w4 hown hgrow _
        obtain ⟨gv, cv, rfl⟩ : ∃ gv cv, v' = .slice (some ⟨gv, 0, none⟩) (ps.length + 1) cv := by
          rcases hown.2 with ⟨_, e⟩ | ⟨g', cap', cur, e, _⟩
          · omega
          · exact ⟨g', cap', e⟩
        have hbx : w4.heap[lo]? = some (.cells #[.slice Ap ps.length cp] 23 (0, 0)) := ((hgrow.block lo (by simp; omega) (by
          intro e
          have := OwnW.lt HOw.out lo e.symm
          omega)).trans (heap_alloc_old _ _ hlw)).trans HBox.out
        have hb4 : Below lo w3 w4 := ((HBl.out.alloc (by omega) _).grown hgrow (by simp; omega) (fun k hk => by have := OwnW.lt HOw.out k hk; omega))
        have l4 : lo < w4.heap.size := lt_of_block hbx
        have c4 := one_cell hbx
        have hO4 := Lib.hid (show OwnW (w4.setCell ⟨lo, 0, none⟩ (.slice (some ⟨gv, 0, none⟩) (ps.length + 1) cv)) (lo + 1) (.slice (some ⟨gv, 0, none⟩) (ps.length + 1) cv) (ps ++ [2 * at_]) by
          refine ownsRow_lo ?_ (Nat.lt_succ_self lo)
          rw [List.length_append, List.length_singleton, show cw (ps ++ [2 * at_]) = cw ps ++ [.int .u64 (2 * (at_ : Int))] by simp [cw]]
          exact hown)
        have hX4 := Lib.hid (show (w4.setCell ⟨lo, 0, none⟩ (.slice (some ⟨gv, 0, none⟩) (ps.length + 1) cv)).heap[lo]? = some (.cells #[.slice (some ⟨gv, 0, none⟩) (ps.length + 1) cv] 23 (0, 0)) from heap_setCell_same _ lo 0 _ _ _ hbx)
        have hb5 := Lib.hid (hb4.setCell (p := ⟨lo, 0, none⟩) (Nat.le_refl _) (.slice (some ⟨gv, 0, none⟩) (ps.length + 1) cv))
        clear hown hgrow hbx hb4 HBox HOw HBl hlw p1 hcell hb HI
        go_wp2_with fail
        refine (hcl _).mono ?_
        rintro e w6 ⟨rfl, hb6⟩
        have s6 := hb6.size
        have e6 : (w4.setCell ⟨lo, 0, none⟩ (.slice (some ⟨gv, 0, none⟩) (ps.length + 1) cv)).heap.size = w4.heap.size := by simp [World.setCell]
        have hO6 := Lib.hid (ownw_at hO4.out (fun b cur hb => hb6.block b (lt_of_block hb)))
        have hX6 := Lib.hid ((hb6.block lo (by rw [e6]; exact l4)).trans hX4.out)
        have hB6 := Lib.hid (hb5.out.trans (hb6.mono (by rw [e6]; omega)))
        have l6 : lo < w6.heap.size := by omega
        have hPs2 := Lib.hid (show (ps ++ [2 * at_]).length = j + 1 ∧ (∀ x ∈ ps ++ [2 * at_], x < 18446744073709551616) ∧ (j + 1 = 0 → at_ + (2 + kc K) = 2) ∧ (0 < j + 1 → (ps ++ [2 * at_])[0]? = some 4) by
          obtain ⟨z1, z2, z3, z4⟩ := HPs.out
          refine ⟨by simp [z1], fun x hx => ?_, by omega, fun _ => ?_⟩
          · rcases List.mem_append.1 hx with h | h
            · exact z2 x h
            · rw [List.mem_singleton] at h; omega
          · rcases Nat.eq_zero_or_pos j with h0 | h0
            · have e : ps = [] := List.eq_nil_of_length_eq_zero (by omega)
              subst e
              rw [z3 h0]; rfl
            · rw [List.getElem?_append_left (by omega)]; exact z4 h0)
        clear hb6 s6 e6 hO4 hX4 hb5 hcl c4
        go_wp2_with fail
        go_roundw
        case rel => exact ⟨j + 1, at_ + (2 + kc K), ps ++ [2 * at_], some ⟨gv, 0, none⟩, cv, by omega, by simp, by simp, by omega, hPs2, by simpa using hX6, by simpa using hO6, hB6, l6⟩
        case measure => simp [intOf]; omega
      · have e : j = m := by omega
        subst e
        have hlen2 := HPs.out.1
        have hsz := HBl.out.size
        have hNX := Lib.hid (heap_alloc_new wr (.cells #[.int .i64 ((0 : Nat) : Int)] 3))
        have hbn : Below wr.heap.size wr (wr.alloc (.cells #[.int .i64 ((0 : Nat) : Int)] 3)) := (Below.refl _ _).alloc (Nat.le_refl _) _
        have hb3n : Below lo w3 (wr.alloc (.cells #[.int .i64 ((0 : Nat) : Int)] 3)) := HBl.out.trans (hbn.mono (by omega))
        have hb0n : Below w.heap.size w (wr.alloc (.cells #[.int .i64 ((0 : Nat) : Int)] 3)) := B4.out.trans (hb3n.mono (by omega))
        have HS := Lib.hid (show LayS w (wr.alloc (.cells #[.int .i64 ((0 : Nat) : Int)] 3)) lo (w.heap.size + 2) g gc 2 gb gb2 w.heap.size w.heap.size (w.heap.size + 1) w2.heap.size lo wr.heap.size zs.length ck cL cp 0 0 AK AL Ap none zs ls ps (List.replicate ((200 + 63) / 64) 0) [] [] from
          ⟨⟨H3.out.below (by rw [HLo.out]; exact hb3n), fun i => by rw [bitAt_zero]; simp, by simp⟩, ⟨[], ⟨rfl, fun k hk => by simp at hk⟩, .inl rfl⟩,
            (hb3n.block _ (by omega)).trans Q0.out, (hb3n.block _ (by omega)).trans Q1.out, (hb3n.block _ hlo').trans W3.out,
            (hbn.block _ hlw).trans HBox.out, hNX.out, (((ownsRow_rt HOw.out).less (Nat.le_succ lo)).below hbn).more hbn.size,
            HK3.out.below (hb3n.mono (by omega)) (Nat.le_refl _), HL3.out.below (hb3n.mono (by omega)) (Nat.le_refl _), hb0n, Nat.le_trans (Nat.le_of_lt hlw) hbn.size⟩)
        have HP := Lib.hid (show LayP lo (w.heap.size + 2) g gb gb2 w.heap.size w.heap.size (w.heap.size + 1) w2.heap.size lo wr.heap.size from
          ⟨by omega, by omega, by omega, by omega, by omega, Nat.le_refl _, by omega, by omega, by omega, by omega, by omega⟩)
        have HPn := Lib.hid HPs.out
        have hB0 : w.heap.size ≤ lo := by omega
        have hlw' : lo ≤ wr.heap.size := by omega
        clear hbn hb3n hb0n hNX HBox HOw HBl p1 H3 Q0 Q1 W3 B4 HK3 HL3 hvoid hP0 hBP HPs b2 hlo' hsz hlw
        generalize w2.heap.size = W7 at *
        have hn0 : ((0 : Nat) : Int) = 0 := rfl
        rw [hn0] at HS
        clear hn0
        go_wp2_with fail
        generalize wr.heap.size = NX at *
        go_loopw [73] (fun i wz => ∃ (q n gc cap : Nat) (ws : List Nat) (A : Option Addr) (c : Nat) (os : List Ob), q ≤ j ∧ i = .int .i64 q ∧ n ≤ 4 * q ∧ Hid (LayS w wz lo (w.heap.size + 2) g gc cap gb gb2 w.heap.size w.heap.size (w.heap.size + 1) W7 lo NX zs.length ck cL cp c n AK AL Ap A zs ls ps ws os os) ∧ Hid (LaidOk os q)) (fun i _ => j - (intOf i).toNat)
        case atStart => exact ⟨0, 0, gc, 2, _, none, 0, [], Nat.zero_le _, rfl, by omega, HS, Lib.hid ⟨rfl, Nat.le_refl _, by simp⟩⟩
        case round =>
          obtain ⟨q, n, gc1, cap1, ws1, A1, c1, os, hq, rfl, hn, HL, HO⟩ := hrel
          clear HS
          by_cases hlt2 : q < j
          · obtain ⟨bz, offz, rfl, hbz, hcell⟩ := ints_at HL.out.rK (k := q) (by omega)
            obtain ⟨K, hK, hK2⟩ := kind_of zs[q]
            have HKe := Lib.hid hK
            clear hK
            go_upto_region 22 with fail
            rw [HKe.out]
            clear HKe hcell
            have hlead := lead_any w.heap.size NX lo wr.heap.size zs.length ck cL n cp (some ⟨bz, offz, none⟩) AL Ap ls ps wr HL.out.bG HL.out.bN HL.out.bP (HL.out.rL.more (by have := HL.out.size; omega)) HL.out.rP.rd (by have := HPn.out.1; omega) (by omega) (by have := HPn.out.1; omega) hll HLw.out HPn.out.2.1
            go_wp2_with fail
            refine hlead.mono ?_
            rintro e w5 ⟨x, n5, rfl, hx5, hn5, hN5, hO5⟩
            have H5 := Lib.hid (HL.out.one HP.out hO5 hN5)
            have HX5 := Lib.hid hx5
            clear hlead hO5 hN5 HL hx5 hbz
            have c5 := one_cell H5.out.bP
            obtain ⟨bp, offp, rfl, hbp, hcp⟩ := rdw_at (w := w5) H5.out.rP.rd (k := 0) (by have := HPn.out.1; omega)
            have hp4 : ps[0]'(by have := HPn.out.1; omega) = 4 := by
              have := HPn.out.2.2.2 (by omega)
              rw [List.getElem?_eq_getElem (by have := HPn.out.1; omega)] at this
              injection this
            rw [hp4, Nat.add_zero] at hcp
            clear hp4 hbp
            have hp0 : 0 < ps.length := by have := HPn.out.1; omega
            go_upto_region 23 with fail
            go_cut [89] (fun v wx => v = .bool (badB x) ∧ w5 = wx)
            case first =>
              have hbad : badB x = decide (x % 2 = 1 ∨ x = 0) := rfl
              by_cases ho : x % 2 = 1
              · have e1 : ((x : Int) % 2 == 1) = true := beq_iff_eq.2 (by omega)
                have HB := Lib.hid (show badB x = true by rw [hbad]; simp [ho])
                clear ho hbad
                go_wp2_with fail
                all_goals go_meet
                all_goals exact ⟨by rw [HB.out], rfl⟩
              · have e1 : ((x : Int) % 2 == 1) = false := beq_eq_false_iff_ne.2 (by omega)
                by_cases hz : x = 0
                · have e2 : ((x : Int) == 0) = true := beq_iff_eq.2 (by omega)
                  have HB := Lib.hid (show badB x = true by rw [hbad]; simp [hz])
                  clear ho hz hbad
                  go_wp2_with fail
                  all_goals go_meet
                  all_goals exact ⟨by rw [HB.out], rfl⟩
                · have e2 : ((x : Int) == 0) = false := beq_eq_false_iff_ne.2 (by omega)
                  have HB := Lib.hid (show badB x = false by rw [hbad]; simp [hz]; omega)
                  clear ho hz hbad
                  go_wp2_with fail
                  all_goals go_meet
                  all_goals exact ⟨by rw [HB.out], rfl⟩
            case rest =>
             obtain ⟨rfl, rfl⟩ := hcut
             go_upto_if 89 with fail
             go_cut [18] (fun v wx => ∃ cl : Nat, v = .int .u64 (cl : Int) ∧ Hid (cl % 2 = 0 ∧ cl ≠ 0 ∧ cl < 18446744073709551616) ∧ w5 = wx)
             case first =>
              obtain ⟨bb, hbb⟩ : ∃ bb, badB x = bb := ⟨_, rfl⟩
              have HBB := Lib.hid hbb
              rw [hbb]
              clear hbb
              cases bb with
              | true =>
                go_wp2_with fail
                all_goals go_meet
                all_goals exact ⟨4, rfl, Lib.hid ⟨by decide, by decide, by decide⟩, rfl⟩
              | false =>
                have HXX := Lib.hid (show x % 2 = 0 ∧ x ≠ 0 ∧ x < 18446744073709551616 from by
                  have h := HBB.out
                  unfold badB at h
                  have h := of_decide_eq_false h
                  have := HX5.out
                  omega)
                go_wp2_with fail
                all_goals go_meet
                all_goals exact ⟨x, rfl, HXX, rfl⟩
             case rest =>
              obtain ⟨cl, rfl, HCl, rfl⟩ := hcut
              clear HX5 c5 hcp
              have hE := three_ok cl K HCl.out.1 HCl.out.2.1 hK2
              have hos := HO.out.cells
              have hk3 := kc_le K
              have hq14 : q ≤ 14 := by omega
              have hal := obs_alloc cl K 3 (kc K) 1 w5 H5.out.obs hE HCl.out.2.2 (kc_cells cl K hE) (by omega) (by omega) (by decide) (by have := H5.out.size; have := HP.out.lbl; omega)
              have HE := Lib.hid hE
              clear hE
              go_wp2_with fail
              refine hal.mono ?_
              rintro e w6 ⟨gc6, cap6, ws6, rfl, ho6, hgc6, has6⟩
              have H6 := Lib.hid (H5.out.aside HP.out has6 ho6)
              have hra := ralloc_fit (lo := lo) (size := 200) (last := 0) (c := c1) cl K 3 (kc K) 1 w6 H6.out.doc (Nat.le_refl _) H6.out.size (fun o ho => H5.out.obs.ok o ho) HE.out HCl.out.2.2 (kc_cells cl K HE.out) (by omega) (by decide) (by decide) (by decide)
              clear hal ho6 hgc6 has6 H5
              have f6 := cells3 H6.out.bW
              go_wp2_with fail
              refine hra.mono ?_
              rintro e w7 ⟨A7, c7, rfl, hd7, hb7⟩
              have hB6 : w.heap.size ≤ w6.heap.size := by have := H6.out.size; omega
              have H7 := Lib.hid (H6.out.below hb7 hB6)
              have f7 := cells3 H7.out.bW
              have l7 := lt_of_block H7.out.bW
              have H8 := Lib.hid (H7.out.setW (c' := c7) HP.out hd7)
              have hlen7 : (os ++ [newOb cl K 3 (kc K) 1]).length = os.length + 1 := by simp
              rw [hlen7] at H8
              have H9 := Lib.hid (H8.out.below ((Below.refl _ _).alloc (Nat.le_refl _) (.cells #[.int .i64 200, .slice A7 (os.length + 1) c7, .int .u32 0] 31)) (by have := H8.out.size; have := HP.out.lbl; omega))
              have HOn := Lib.hid (HO.out.snoc (cl := cl) (fill := 1) hK2)
              have HLen := Lib.hid hlen7
              clear hra H6 H7 H8 hd7 hb7 f6 hB6 hlen7
              have HPos := Lib.hid (show pos (os ++ [newOb cl K 3 (kc K) 1]) q = (Lof os).length ∧ ∃ h : q < (os ++ [newOb cl K 3 (kc K) 1]).length, (os ++ [newOb cl K 3 (kc K) 1])[q].kind = K from by
                have e := HO.out.len
                subst e
                exact ⟨by rw [pos_append os _ (Nat.le_refl _), pos_all], by simp, by simp [newOb]⟩)
              go_wp2_with fail
              obtain ⟨N, hN⟩ : ∃ N, (Lof os).length = N := ⟨_, rfl⟩
              rw [hN] at HPos ⊢
              have hN16 : N ≤ 200 := by omega
              clear hN f7 l7
              go_loopw [24] (fun i wy => ∃ (t ny gcy capy : Nat) (wsy : List Nat) (Ay : Option Addr) (cy : Nat) (oy : List Ob), t ≤ 3 ∧ i = .int .i64 t ∧ ny ≤ 4 * q + 1 + t ∧ Hid (LayS w wy lo (w.heap.size + 2) g gcy capy gb gb2 w.heap.size w.heap.size (w.heap.size + 1) W7 lo NX zs.length ck cL cp cy ny (some ⟨bz, offz, none⟩) AL (some ⟨bp, offp, none⟩) Ay zs ls ps wsy oy oy) ∧ Hid (LaidOk oy (q + 1)) ∧ Hid (pos oy q = N ∧ ∃ h : q < oy.length, oy[q].kind = K)) (fun i _ => 3 - (intOf i).toNat)
              case atStart => exact ⟨0, n5, gc6, cap6, ws6, A7, c7, os ++ [newOb cl K 3 (kc K) 1], Nat.zero_le _, rfl, by omega, H9, HOn, HPos⟩
              case round =>
                obtain ⟨t, ny, gcy, capy, wsy, Ay, cy, oy, ht, rfl, hny, HLy, HOy, HPy⟩ := hrel
                clear H9 HOn HPos HLen
                by_cases hc : t < 3 ∧ K ≠ 2
                · obtain ⟨hc1, hc2⟩ := hc
                  have e2 : ((K : Int) != 2) = true := by rw [bne_iff_ne]; omega
                  obtain ⟨hpy, hqy, hky⟩ := HPy.out
                  have hlead := lead_any w.heap.size NX lo wr.heap.size zs.length ck cL ny cp (some ⟨bz, offz, none⟩) AL (some ⟨bp, offp, none⟩) ls ps wr HLy.out.bG HLy.out.bN HLy.out.bP (HLy.out.rL.more (by have := HLy.out.size; omega)) HLy.out.rP.rd hp0 (by omega) (by have := HPn.out.1; omega) hll HLw.out HPn.out.2.1
                  go_wp2_with fail
                  refine hlead.mono ?_
                  rintro e wa ⟨xa, na, rfl, hxa, hna, hNa, hOa⟩
                  have Ha := Lib.hid (HLy.out.one HP.out hOa hNa)
                  have HXa := Lib.hid hxa
                  have hok := HOy.out.each _ (List.getElem_mem hqy)
                  have hput := obs_put q t xa wa Ha.out.obs hqy (by rw [hky]; exact hc2) (by rw [hok.2.2.1]; exact hc1) hxa
                  rw [hpy] at hput
                  clear hlead hOa hNa HLy hxa
                  go_wp2_with fail
                  refine hput.mono ?_
                  rintro e wb ⟨rfl, hob, hab⟩
                  have Hb := Lib.hid (Ha.out.aside HP.out hab hob)
                  have hrp := rput_yes (lo := lo) 200 0 cy q t xa wb Hb.out.doc (Nat.le_refl _) Hb.out.size Ha.out.obs.len hqy (by rw [hky]; exact hc2) (by rw [hok.2.2.1]; exact hc1) (by rw [hok.2.2.1]; decide) ((Ha.out.obs.okAt hqy).words (by rw [hky]; exact hc2))
                  rw [hpy, show ((2 * N : Nat) : Int) = (N : Int) * 2 by omega] at hrp
                  have fb := cells3 Hb.out.bW
                  clear hput hob hab Ha
                  go_wp2_with fail
                  refine hrp.mono ?_
                  rintro e wd ⟨Ad, cd, rfl, hdd, hbd⟩
                  have hBb : w.heap.size ≤ wb.heap.size := by have := Hb.out.size; omega
                  have Hd := Lib.hid (Hb.out.below hbd hBb)
                  have fd := cells3 Hd.out.bW
                  have He := Lib.hid (Hd.out.setW (c' := cd) HP.out hdd)
                  have HOe := Lib.hid (HOy.out.put (k := t) (x := xa) hqy (by rw [hky]; exact hc2))
                  have HPe := Lib.hid (show pos (oy.set q (putOb oy[q] t xa)) q = N ∧ ∃ h : q < (oy.set q (putOb oy[q] t xa)).length, (oy.set q (putOb oy[q] t xa))[q].kind = K from
                    ⟨by rw [flat_set_len hqy (by unfold putOb; simp)]; exact hpy, by rw [List.length_set]; exact hqy, by rw [List.getElem_set_self]; exact hky⟩)
                  have hsl : (oy.set q (putOb oy[q] t xa)).length = oy.length := List.length_set
                  rw [hsl] at He
                  clear hrp hdd hbd Hb Hd fb hsl hBb hok HOy HPy
                  go_wp2_with fail
                  go_roundw
                  case rel => exact ⟨t + 1, na, gcy, capy, wsy, Ad, cd, _, by omega, by simp, by omega, He, HOe, HPe⟩
                  case measure => simp [intOf]; omega
                · by_cases h3 : t < 3
                  · have e2 : ((K : Int) != 2) = false := by rw [bne_eq_false_iff_eq]; omega
                    clear hc
                    go_wp2_with fail
                    go_roundw
                    case rel => exact ⟨q + 1, ny, gcy, capy, wsy, Ay, cy, oy, by omega, by simp, by omega, HLy, HOy⟩
                    case measure => simp [intOf]; omega
                  · clear hc
                    go_wp2_with fail
                    go_roundw
                    case rel => exact ⟨q + 1, ny, gcy, capy, wsy, Ay, cy, oy, by omega, by simp, by omega, HLy, HOy⟩
                    case measure => simp [intOf]; omega
          · have e : q = j := by omega
            subst e
            have fW := cells3 HL.out.bW
            have fR := cells3 HL.out.bR
            go_wp2_with fail
            go_region
            rename_i hK
            refine hK _ _ ?_
            clear hK
            have HFin := Lib.hid (HL.out.fin HP.out rfl)
            clear fW fR HL
            go_wp2_with fail
            obtain ⟨hLd, hR⟩ := HFin.out
            clear HFin
            generalize (((wr.setCell ⟨w.heap.size + 1, 0, none⟩ (.int .i64 200)).setCell ⟨w.heap.size + 1, 1, none⟩ (.slice A1 os.length c1)).setCell ⟨w.heap.size + 1, 2, none⟩ (.int .u32 0)).drew = wf at hLd hR ⊢
            obtain ⟨q0, q1, q2, _⟩ := cells3 hR
            exact bodyPost_ret (v := .tuple #[.pointer (some ⟨g, 0, none⟩), .agg #[.int .i64 200, .slice A1 os.length c1, .int .u32 0], .bool true]) (by simp [results, Tryd.results5, go_sem, q0, q1, q2]) rfl ⟨lo, w.heap.size + 2, g, gc1, cap1, gb, gb2, c1, A1, ws1, os, q, rfl, hLd, HO.out, hm⟩
end Go.Proofs.YtahmljjjdoaahaaDoor.Fl
