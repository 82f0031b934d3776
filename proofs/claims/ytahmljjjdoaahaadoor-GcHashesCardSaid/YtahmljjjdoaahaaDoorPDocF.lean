/-
  The document's heap in memory: Put.
-/
import Derived.Test.YtahmljjjdoaahaaDoorPDocE
import Derived.Test.YtahmljjjdoaahaaDoorPHeapI
namespace Go.Proofs.YtahmljjjdoaahaaDoor.Fl
open Go.RowKit

theorem ownsRow_keep {w w' : World} {base size n : Nat} {e : TypeId} {v : Value} {xs : List Value} (h : w.ownsRow base e size v n xs) (hk : ∀ (b : Nat) (cur : Array Value), base ≤ b → w.heap[b]? = some (Obj.cells cur e (0, 0)) → w'.heap[b]? = w.heap[b]?) : w'.ownsRow base e size v n xs := by
  refine ⟨h.1, ?_⟩
  rcases h.2 with h0 | ⟨g, cap, cur, e, hb, hg, hr⟩
  · exact .inl h0
  · exact .inr ⟨g, cap, cur, e, hb, (hk g cur hb hg).trans hg, hr⟩
def putOb (o : Ob) (j x : Nat) : Ob := { o with xs := o.xs.set j x }
theorem putOb_words {o : Ob} (h : o.kind ≠ 2) (j x : Nat) : (putOb o j x).words = o.words.set j x ∧ (putOb o j x).bytes = [] ∧ o.bytes = [] := by
  unfold putOb Ob.words Ob.bytes
  exact ⟨by simp [h], by simp [h], by simp [h]⟩
def RPutPost (lo : Nat) (size last : Int) (os : List Ob) (w : World) (e : Ending) (w' : World) : Prop := ∃ A' c', e = .returned (.tuple #[.agg #[.int .i64 size, .slice A' os.length c', .int .u32 last], .int .i64 0]) ∧ DocAt w' lo w'.heap.size A' os ∧ Below w.heap.size w w'
set_option maxRecDepth 100000 in
set_option maxHeartbeats 4000000 in
theorem rput_yes {lo B : Nat} {A : Option Addr} {os : List Ob} (size last : Int) (c k i x : Nat) (w : World) (h : DocAt w lo B A os) (hB : B ≤ w.heap.size) (hlo : lo ≤ w.heap.size) (hl : (Lof os).length ≤ 16777216) (hk : k < os.length) (h2 : os[k].kind ≠ 2) (hi : i < os[k].sz) (hsz : os[k].sz ≤ 1048576) (hxs : os[k].xs.length = os[k].sz) :
    Calls Tryd.prog 20 #[.agg #[.int .i64 size, .slice A os.length c, .int .u32 last], .int .u64 ((2 * pos os k : Nat) : Int), .int .i64 (i : Int), .int .u64 (x : Int)] w (RPutPost lo size last (os.set k (putOb os[k] i x)) w) := by
  have hwd : os[k].words = os[k].xs := by unfold Ob.words; rw [if_neg h2]
  have hby : os[k].bytes = [] := (putOb_words h2 i x).2.2
  have hck := fun (w' : World) (hw' : DocAt w' lo B A os) (hb : B ≤ w'.heap.size) => rcheck_yes size last c k i w' hw' hb hl hk h2 hi hsz
  have how := fun (w' : World) (hw' : DocAt w' lo B A os) (hb : B ≤ w'.heap.size) => rown_any size last c k w' hw' hb hl hk (by rw [hwd, hby, hxs]; exact ⟨hsz, Nat.zero_le _⟩)
  have hkl : k ≤ 16777216 := by have := pos_ge os (Nat.le_of_lt hk); have := pos_top os hk; omega
  have hil : i < os[k].words.length := by rw [hwd, hxs]; exact hi
  have hil2 : os[k].words.length ≤ 1048576 := by rw [hwd, hxs]; exact hsz
  have HPo := Lib.hid (putOb_words h2 i x)
  have hos : k < os.length := hk
  have p0 : ((w.alloc (.cells #[.int .i64 size, .slice A os.length c, .int .u32 last] 31)).alloc (.cells #[.int .i64 0, .slice none 0 0, .int .u32 0] 31)).heap[w.heap.size]? = some (.cells #[.int .i64 size, .slice A os.length c, .int .u32 last] 31 (0, 0)) := (heap_alloc_old _ _ (by simp)).trans (heap_alloc_new w _)
  have p1 : ((w.alloc (.cells #[.int .i64 size, .slice A os.length c, .int .u32 last] 31)).alloc (.cells #[.int .i64 0, .slice none 0 0, .int .u32 0] 31)).heap[w.heap.size + 1]? = some (.cells #[.int .i64 0, .slice none 0 0, .int .u32 0] 31 (0, 0)) := by
    have e : (w.alloc (.cells #[.int .i64 size, .slice A os.length c, .int .u32 last] 31)).heap.size = w.heap.size + 1 := by simp
    rw [← e]; exact heap_alloc_new _ _
  have hb2 : Below w.heap.size w ((w.alloc (.cells #[.int .i64 size, .slice A os.length c, .int .u32 last] 31)).alloc (.cells #[.int .i64 0, .slice none 0 0, .int .u32 0] 31)) := ((Below.refl _ _).alloc (Nat.le_refl _) _).alloc (by simp) _
  have HB2 := Lib.hid hb2
  have P0 := Lib.hid p0
  have P1 := Lib.hid p1
  have HD := Lib.hid (h.below (hb2.mono hB))
  have HK := Lib.hid h2
  have HH := Lib.hid h
  clear h hb2 p0 p1 hwd hby h2
  go_enter Tryd.func20, Tryd.ntmps20
  go_wp2_with fail
  refine (hck _ HD.out (by simp; omega)).mono ?_
  rintro e w1 ⟨rfl, hb1⟩
  have s1 := hb1.size
  simp at s1
  have q0 := (hb1.block w.heap.size (by simp; omega)).trans P0.out
  have q1 := (hb1.block (w.heap.size + 1) (by simp)).trans P1.out
  have HB1 := Lib.hid (HB2.out.trans (hb1.mono (by simp; omega)))
  have HD1 := Lib.hid (HD.out.below (hb1.mono (by simp; omega)))
  have l0 := lt_of_block q0
  have l1 := lt_of_block q1
  have Q0 := Lib.hid q0
  have Q1 := Lib.hid q1
  have f0 := cells3 q0
  clear hb1 HB2 HD P0 P1 q0 q1 hck s1
  go_wp2_with fail
  refine (how _ HD1.out (by omega)).mono ?_
  rintro e w2 ⟨g, c', Aw, cA, us, Ab, cB, rfl, HO⟩
  have hb2 := HO.below
  have q0 := (hb2.block _ l0).trans Q0.out
  have q1 := (hb2.block _ l1).trans Q1.out
  have HOw := Lib.hid HO
  have HB3 := Lib.hid (HB1.out.trans (hb2.mono (by omega)))
  have f0 := cells3 q0
  have Q0 := Lib.hid q0
  have Q1 := Lib.hid q1
  clear HO hb2 q0 q1 HB1 how HD1
  go_upto_region 5 with fail
  have hR3 := heap_setCell_same _ w.heap.size 2 _ _ (.int .u32 last) (heap_setCell_same _ w.heap.size 1 _ _ (.slice (some ⟨g, 0, none⟩) os.length c') (heap_setCell_same w2 w.heap.size 0 _ _ (.int .i64 size) Q0.out))
  have hrow := ownsRow_lo (k := 2) (u := .int .u32 last) (ownsRow_lo (k := 1) (u := .slice (some ⟨g, 0, none⟩) os.length c') (ownsRow_lo (k := 0) (u := .int .i64 size) HOw.out.row l0) l0) l0
  obtain ⟨huk, hwds0, _⟩ := HOw.out.one hk
  have hwds := ownsRow_lo (k := 2) (u := .int .u32 last) (ownsRow_lo (k := 1) (u := .slice (some ⟨g, 0, none⟩) os.length c') (ownsRow_lo (k := 0) (u := .int .i64 size) hwds0 l0) l0) l0
  have hq1 : (((w2.setCell ⟨w.heap.size, 0, none⟩ (.int .i64 size)).setCell ⟨w.heap.size, 1, none⟩ (.slice (some ⟨g, 0, none⟩) os.length c')).setCell ⟨w.heap.size, 2, none⟩ (.int .u32 last)).heap[w.heap.size + 1]? = some (.cells #[.int .i64 0, .slice none 0 0, .int .u32 0] 31 (0, 0)) :=
    (Below.heap_setCell _ _ _ _ (by show w.heap.size + 1 ≠ w.heap.size; omega)).trans ((Below.heap_setCell _ _ _ _ (by show w.heap.size + 1 ≠ w.heap.size; omega)).trans ((Below.heap_setCell _ _ _ _ (by show w.heap.size + 1 ≠ w.heap.size; omega)).trans Q1.out))
  have hbel : Below w.heap.size w (((w2.setCell ⟨w.heap.size, 0, none⟩ (.int .i64 size)).setCell ⟨w.heap.size, 1, none⟩ (.slice (some ⟨g, 0, none⟩) os.length c')).setCell ⟨w.heap.size, 2, none⟩ (.int .u32 last)) := ((HB3.out.setCell (p := ⟨w.heap.size, 0, none⟩) (Nat.le_refl _) _).setCell (p := ⟨w.heap.size, 1, none⟩) (Nat.le_refl _) _).setCell (p := ⟨w.heap.size, 2, none⟩) (Nat.le_refl _) _
  have hb23 : Below B w2 (((w2.setCell ⟨w.heap.size, 0, none⟩ (.int .i64 size)).setCell ⟨w.heap.size, 1, none⟩ (.slice (some ⟨g, 0, none⟩) os.length c')).setCell ⟨w.heap.size, 2, none⟩ (.int .u32 last)) := (((Below.refl B w2).setCell (p := ⟨w.heap.size, 0, none⟩) hB _).setCell (p := ⟨w.heap.size, 1, none⟩) hB _).setCell (p := ⟨w.heap.size, 2, none⟩) hB _
  change (((w2.setCell ⟨w.heap.size, 0, none⟩ (.int .i64 size)).setCell ⟨w.heap.size, 1, none⟩ (.slice (some ⟨g, 0, none⟩) os.length c')).setCell ⟨w.heap.size, 2, none⟩ (.int .u32 last)).heap[w.heap.size]? = some (.cells #[.int .i64 size, .slice (some ⟨g, 0, none⟩) os.length c', .int .u32 last] 31 (0, 0)) at hR3
  have hot : ∀ j (h : j < os.length), j ≠ k → ∃ u, us[j]? = some u ∧ DocV (((w2.setCell ⟨w.heap.size, 0, none⟩ (.int .i64 size)).setCell ⟨w.heap.size, 1, none⟩ (.slice (some ⟨g, 0, none⟩) os.length c')).setCell ⟨w.heap.size, 2, none⟩ (.int .u32 last)) lo B (pos os j) os[j] u := fun j hj hjk => by
    obtain ⟨u, h1, h2⟩ := HOw.out.others j hj hjk
    exact ⟨u, h1, h2.keep hb23 (Nat.le_refl _)⟩
  generalize hW3 : (((w2.setCell ⟨w.heap.size, 0, none⟩ (.int .i64 size)).setCell ⟨w.heap.size, 1, none⟩ (.slice (some ⟨g, 0, none⟩) os.length c')).setCell ⟨w.heap.size, 2, none⟩ (.int .u32 last)) = w3 at *
  obtain ⟨gw, rfl⟩ : ∃ gw, Aw = some ⟨gw, 0, none⟩ := by
    rcases hwds.2 with ⟨_, e⟩ | ⟨g', cap, cur, e, _⟩
    · omega
    · injection e with e _ _; exact ⟨g', e⟩
  have hflt := Lib.hid (show us.flatten[k * 8 + 6]? = some (.slice (some ⟨gw, 0, none⟩) os[k].words.length cA) by
    rw [flatten_at 8 us ?_ k 6 (by omega), huk]; rfl
    intro u hu
    obtain ⟨j, hj, rfl⟩ := List.mem_iff_getElem.1 hu
    rw [HOw.out.len] at hj
    by_cases e : j = k
    · subst e; rw [List.getElem?_eq_getElem (by rw [HOw.out.len]; exact hj)] at huk; injection huk with huk; rw [huk]; rfl
    · obtain ⟨u', h1, h2⟩ := HOw.out.others j hj e
      rw [List.getElem?_eq_getElem (by rw [HOw.out.len]; exact hj)] at h1; injection h1 with h1; rw [h1]; exact h2.len)
  have f3 := cells3 hR3
  have d6 := ownsRow_at hrow hflt.out
  have dw := ownsRow_at hwds (cw_at os[k].words i hil)
  have dz := fun j => ownsRow_frozen hwds j (by omega)
  have f4 := cells3 hq1
  have lgw := ownsRow_block hwds
  have lg := ownsRow_block hrow
  have HR3 := Lib.hid hR3
  have HRow := Lib.hid hrow
  have HWd := Lib.hid hwds
  have HQ1 := Lib.hid hq1
  have HBel := Lib.hid hbel
  have HUk := Lib.hid huk
  have HOt := Lib.hid hot
  have hne1 : w.heap.size + 1 ≠ gw := by omega
  have hne0 : w.heap.size ≠ gw := by omega
  clear hW3 hrow hwds hR3 hq1 hbel huk hot hwds0 hb23 f0
  go_wp2_with fail
  obtain ⟨curw, hcw⟩ := ownsRow_type HWd.out
  have hRx : (w3.setCell ⟨gw, i, none⟩ (.int .u64 (x : Int))).heap[w.heap.size + 1]? = _ := (Below.heap_setCell _ _ _ _ hne1).trans HQ1.out
  have hR : ((((w3.setCell ⟨gw, i, none⟩ (.int .u64 (x : Int))).setCell ⟨w.heap.size + 1, 0, none⟩ (.int .i64 size)).setCell ⟨w.heap.size + 1, 1, none⟩ (.slice (some ⟨g, 0, none⟩) os.length c')).setCell ⟨w.heap.size + 1, 2, none⟩ (.int .u32 last)).heap[w.heap.size + 1]? = some (.cells #[.int .i64 size, .slice (some ⟨g, 0, none⟩) os.length c', .int .u32 last] 31 (0, 0)) :=
    heap_setCell_same _ (w.heap.size + 1) 2 _ _ (.int .u32 last) (heap_setCell_same _ (w.heap.size + 1) 1 _ _ (.slice (some ⟨g, 0, none⟩) os.length c') (heap_setCell_same _ (w.heap.size + 1) 0 _ _ (.int .i64 size) hRx))
  have hrow0 : (w3.setCell ⟨gw, i, none⟩ (.int .u64 (x : Int))).ownsRow w1.heap.size 43 8 (.slice (some ⟨g, 0, none⟩) os.length c') os.length us.flatten :=
    ownsRow_keep HRow.out (fun b cur _ hb => Below.heap_setCell _ _ _ _ (by
      show b ≠ gw
      exact other_type hb hcw (by decide)))
  have hrow := ownsRow_lo (k := 2) (u := .int .u32 last) (ownsRow_lo (k := 1) (u := .slice (some ⟨g, 0, none⟩) os.length c') (ownsRow_lo (k := 0) (u := .int .i64 size) hrow0 l1) l1) l1
  have hwds := ownsRow_lo (k := 2) (u := .int .u32 last) (ownsRow_lo (k := 1) (u := .slice (some ⟨g, 0, none⟩) os.length c') (ownsRow_lo (k := 0) (u := .int .i64 size) (World.ownsRow.stored HWd.out i (.int .u64 (x : Int))).1 l1) l1) l1
  have hbw : Below w.heap.size w ((((w3.setCell ⟨gw, i, none⟩ (.int .u64 (x : Int))).setCell ⟨w.heap.size + 1, 0, none⟩ (.int .i64 size)).setCell ⟨w.heap.size + 1, 1, none⟩ (.slice (some ⟨g, 0, none⟩) os.length c')).setCell ⟨w.heap.size + 1, 2, none⟩ (.int .u32 last)) := (((HBel.out.setCell (p := ⟨gw, i, none⟩) (by show w.heap.size ≤ gw; omega) _).setCell (p := ⟨w.heap.size + 1, 0, none⟩) (by simp) _).setCell (p := ⟨w.heap.size + 1, 1, none⟩) (by simp) _).setCell (p := ⟨w.heap.size + 1, 2, none⟩) (by simp) _
  have hb3 : Below B w3 ((((w3.setCell ⟨gw, i, none⟩ (.int .u64 (x : Int))).setCell ⟨w.heap.size + 1, 0, none⟩ (.int .i64 size)).setCell ⟨w.heap.size + 1, 1, none⟩ (.slice (some ⟨g, 0, none⟩) os.length c')).setCell ⟨w.heap.size + 1, 2, none⟩ (.int .u32 last)) := ((((Below.refl B w3).setCell (p := ⟨gw, i, none⟩) (by show B ≤ gw; omega) _).setCell (p := ⟨w.heap.size + 1, 0, none⟩) (by show B ≤ w.heap.size + 1; omega) _).setCell (p := ⟨w.heap.size + 1, 1, none⟩) (by show B ≤ w.heap.size + 1; omega) _).setCell (p := ⟨w.heap.size + 1, 2, none⟩) (by show B ≤ w.heap.size + 1; omega) _
  change ((((w3.setCell ⟨gw, i, none⟩ (.int .u64 (x : Int))).setCell ⟨w.heap.size + 1, 0, none⟩ (.int .i64 size)).setCell ⟨w.heap.size + 1, 1, none⟩ (.slice (some ⟨g, 0, none⟩) os.length c')).setCell ⟨w.heap.size + 1, 2, none⟩ (.int .u32 last)).ownsRow _ _ _ _ _ _ at hrow
  change ((((w3.setCell ⟨gw, i, none⟩ (.int .u64 (x : Int))).setCell ⟨w.heap.size + 1, 0, none⟩ (.int .i64 size)).setCell ⟨w.heap.size + 1, 1, none⟩ (.slice (some ⟨g, 0, none⟩) os.length c')).setCell ⟨w.heap.size + 1, 2, none⟩ (.int .u32 last)).ownsRow _ _ _ _ _ _ at hwds
  generalize ((((w3.setCell ⟨gw, i, none⟩ (.int .u64 (x : Int))).setCell ⟨w.heap.size + 1, 0, none⟩ (.int .i64 size)).setCell ⟨w.heap.size + 1, 1, none⟩ (.slice (some ⟨g, 0, none⟩) os.length c')).setCell ⟨w.heap.size + 1, 2, none⟩ (.int .u32 last)) = wf at hR hrow hwds hbw hb3 ⊢
  obtain ⟨q0, q1, q2, _⟩ := cells3 hR
  have hsz9 : B ≤ wf.heap.size := Nat.le_trans hB hbw.size
  refine bodyPost_ret (v := .tuple #[.agg #[.int .i64 size, .slice (some ⟨g, 0, none⟩) os.length c', .int .u32 last], .int .i64 0]) (by simp [results, Tryd.results20, go_sem, q0, q1, q2]) rfl ⟨some ⟨g, 0, none⟩, c', by rw [List.length_set], ⟨us, ⟨by rw [List.length_set]; exact HOw.out.len, fun j hj => ?_⟩, (ownsRow_rt hrow).less (by omega)⟩, hbw⟩
  rw [List.length_set] at hj
  have hpl : (putOb os[k] i x).xs.length = os[k].xs.length := by unfold putOb; simp
  rw [flat_set_len hk hpl]
  by_cases e : j = k
  · subst e
    rw [List.getElem_set_self]
    refine ⟨_, HUk.out, some ⟨gw, 0, none⟩, cA, Ab, cB, ?_, ?_, ?_⟩
    · have e1 : (putOb os[j] i x).words.length = os[j].words.length := by rw [HPo.out.1, List.length_set]
      have e2 : (putOb os[j] i x).bytes.length = os[j].bytes.length := by rw [HPo.out.2.1, HPo.out.2.2]
      rw [e1, e2]; rfl
    · rw [HPo.out.1, show cw (os[j].words.set i x) = (cw os[j].words).set i (.int .u64 (x : Int)) by unfold cw; rw [List.map_set]]
      exact (ownsRow_rt hwds).less (by omega)
    · rw [HPo.out.2.1]; exact Rt.nil _ _ _ _ _
  · rw [List.getElem_set_ne (fun h => e h.symm)]
    obtain ⟨u, h1, h2⟩ := HOt.out j hj e
    exact ⟨u, h1, h2.keep hb3 hsz9⟩
end Go.Proofs.YtahmljjjdoaahaaDoor.Fl

/-
  A graph's next lead.
-/
namespace Go.Proofs.YtahmljjjdoaahaaDoor.Fl
open Go.RowKit

/-- nothing but one block has changed -/
structure One (b : Nat) (w w' : World) : Prop where
  os : w'.os = w.os
  tape : w'.tape = w.tape
  output : w'.output = w.output
  size : w'.heap.size = w.heap.size
  block : ∀ k, k ≠ b → w'.heap[k]? = w.heap[k]?
theorem One.below {b B : Nat} {w w' : World} (h : One b w w') (hB : B ≤ b) : Below B w w' := ⟨h.os, h.tape, h.output, Nat.le_of_eq h.size.symm, fun k hk => h.block k (by omega)⟩
theorem one_cell {w : World} {g : Nat} {v : Value} {T : TypeId} (h : w.heap[g]? = some (.cells #[v] T (0, 0))) : w.cell? ⟨g, 0, none⟩ = some v ∧ ∀ k, w.frozen? ⟨g, k, none⟩ = false :=
  ⟨cell_of_row _ _ _ _ _ _ h, fun _ => frozen_of_row _ _ _ _ _ h⟩
def LeadPost (nx n : Nat) (w : World) (e : Ending) (w' : World) : Prop := ∃ x n' : Nat, e = .returned (.int .u64 (x : Int)) ∧ x < 18446744073709551616 ∧ n' ≤ n + 1 ∧ w'.heap[nx]? = some (.cells #[.int .i64 (n' : Int)] 3 (0, 0)) ∧ One nx w w'
set_option maxHeartbeats 2000000 in
theorem lead_any (G nx pl B lk ck cL n cp : Nat) (AK AL Ap : Option Addr) (ls ps : List Nat) (w : World) (hg : w.heap[G]? = some (.cells #[.slice AK lk ck, .slice AL ls.length cL] 25 (0, 0))) (hn : w.heap[nx]? = some (.cells #[.int .i64 (n : Int)] 3 (0, 0)))
    (hp : w.heap[pl]? = some (.cells #[.slice Ap ps.length cp] 23 (0, 0))) (hl : Rd w B AL (cw ls)) (hps : Rd w B Ap (cw ps)) (h0 : 0 < ps.length) (hn0 : n ≤ 1000) (hpl : ps.length ≤ 1000) (hll : ls.length ≤ 9223372036854775807) (hlt : ∀ x ∈ ls, x < 18446744073709551616) (hpt : ∀ x ∈ ps, x < 18446744073709551616) :
    Calls Tryd.prog 17 #[.pointer (some ⟨G, 0, none⟩), .pointer (some ⟨nx, 0, none⟩), .pointer (some ⟨pl, 0, none⟩)] w (LeadPost nx n w) := by
  have g2 := two hg
  have n1 := one_cell hn
  have p1 := one_cell hp
  have HN := Lib.hid hn
  rcases Nat.eq_zero_or_pos ls.length with e0 | e0
  · have e1 : ((ls.length : Int) == 0) = true := by rw [e0]; rfl
    clear hg hn hp hl hps hlt hpt e0
    go_enter Tryd.func17, Tryd.ntmps17
    go_wp2_with fail
    go_ret
    exact ⟨1, n, rfl, by decide, by omega, HN.out, ⟨rfl, rfl, rfl, rfl, fun _ _ => rfl⟩⟩
  · have e1 : ((ls.length : Int) == 0) = false := beq_eq_false_iff_ne.2 (by omega)
    have hnx : nx ≠ G := other_type hn hg (by decide)
    have hnp : nx ≠ pl := other_type hn hp (by decide)
    obtain ⟨b, off, rfl, hb, hc⟩ := rdw_at (w := w) hl (k := n % ls.length) (Nat.mod_lt _ e0)
    have hxl := hlt _ (List.getElem_mem (Nat.mod_lt n e0))
    obtain ⟨X, hX⟩ : ∃ X, ls[n % ls.length]'(Nat.mod_lt n e0) = X := ⟨_, rfl⟩
    rw [hX] at hc hxl
    have e2 : 1 ≤ (ls.length : Int) := by omega
    have hlm : n % ls.length < ls.length := Nat.mod_lt _ e0
    have HX := Lib.hid hxl
    have HG := Lib.hid hg
    have HP := Lib.hid hp
    have HPs := Lib.hid hps
    have HPt := Lib.hid hpt
    clear hg hn hp hl hps hlt hpt hX hb e0 hxl
    generalize ls.length = ll at *
    have one : ∀ q : Nat, One nx w ((w.drewN q).setCell ⟨nx, 0, none⟩ (.int .i64 ((n : Int) + 1))) := fun q =>
      ⟨rfl, rfl, rfl, by simp [World.setCell], fun k hk => Below.heap_setCell (w.drewN q) ⟨nx, 0, none⟩ _ k hk⟩
    have hnew : ∀ q : Nat, ((w.drewN q).setCell ⟨nx, 0, none⟩ (.int .i64 ((n : Int) + 1))).heap[nx]? = some (.cells #[.int .i64 ((n + 1 : Nat) : Int)] 3 (0, 0)) := fun q => heap_setCell_same (w.drewN q) nx 0 _ _ _ HN.out
    have HOne := Lib.hid one
    have HNew := Lib.hid hnew
    clear one hnew
    by_cases hx : X ≤ 1000
    · obtain ⟨b2, off2, rfl, hb2, hc2⟩ := rdw_at (w := w) HPs.out (k := X % ps.length) (Nat.mod_lt _ h0)
      have hyl := HPt.out _ (List.getElem_mem (Nat.mod_lt X h0))
      obtain ⟨Y, hY⟩ : ∃ Y, ps[X % ps.length]'(Nat.mod_lt X h0) = Y := ⟨_, rfl⟩
      rw [hY] at hc2 hyl
      have hlm2 : X % ps.length < ps.length := Nat.mod_lt _ h0
      have HY := Lib.hid hyl
      have hnb : nx ≠ b2 := by
        rintro rfl
        rw [cell_of_row _ nx _ _ _ _ HN.out] at hc2
        match off2 + X % ps.length, hc2 with
        | 0, h => simp at h
        | m + 1, h => simp at h
      clear hY hyl HPs HPt
      generalize ps.length = pp at *
      go_enter Tryd.func17, Tryd.ntmps17
      go_wp2_with fail
      go_quiet (fail)
      go_wp2_with fail
      have hO := HOne.out nq
      have hW := HNew.out nq
      have hp2 := one_cell ((hO.block pl (fun e => hnp e.symm)).trans HP.out)
      have hc3 := (World.cell?_of_block (a := ⟨b2, off2 + X % pp, none⟩) (hO.block b2 (fun e => hnb e.symm))).trans hc2
      generalize (w.drewN nq).setCell ⟨nx, 0, none⟩ (.int .i64 ((n : Int) + 1)) = w2 at *
      have HO2 := Lib.hid hO
      have HW2 := Lib.hid hW
      clear hO hW HOne HNew g2 n1 p1 hc hc2
      go_quiet (fail)
      go_wp2_with fail
      go_ret
      exact ⟨Y, n + 1, rfl, HY.out, Nat.le_refl _, HW2.out, ⟨HO2.out.os, HO2.out.tape, HO2.out.output, HO2.out.size, HO2.out.block⟩⟩
    · have hx2 : 1000 < X := by omega
      clear hx
      go_enter Tryd.func17, Tryd.ntmps17
      go_wp2_with fail
      go_quiet (fail)
      go_wp2_with fail
      go_ret
      exact ⟨X, n + 1, rfl, HX.out, Nat.le_refl _, HNew.out _, HOne.out _⟩
end Go.Proofs.YtahmljjjdoaahaaDoor.Fl

/-
  Memory as a list of objects: Alloc, Put.
-/
namespace Go.Proofs.YtahmljjjdoaahaaDoor.Fl
open Go.RowKit

section
variable {w w' : World} {base g gc cap gb gb2 size last : Nat} {os : List Ob} {ws L : List Nat}
theorem put_yes (i k cl kind sz hash x : Nat) (mark : Bool) (w : World) (h : HeapAt w base g gc cap gb gb2 size last L ws) (hi : HeadIn L i cl kind sz hash mark) (hb : bitAt ws i = true) (h1 : 1 ≤ i) (hk : kind ≠ 2) (hs : k < sz) (hl : i + 2 + k < L.length) (hx : x < 18446744073709551616) :
    Calls Tryd.prog 19 #[.pointer (some ⟨g, 0, none⟩), .int .u64 ((i : Int) * 2), .int .i64 (k : Int), .int .u64 (x : Int)] w fun e w' => e = .returned (.int .i64 0) ∧ HeapAt w' base g gc cap gb gb2 size last (L.set (i + 2 + k) x) ws ∧ Aside g gc gb2 w w' := by
  have hw := fun w' (hw' : HeapAt w' base g gc cap gb gb2 size last L ws) => word_yes i k cl kind sz hash mark w' hw' hi hb h1 hk hs hl
  have H := Lib.hid h
  have HX := Lib.hid hx
  clear h hi hb hk hx
  go_enter Tryd.func19, Tryd.ntmps19
  go_wp2_with fail
  refine (hw _ H.out).mono ?_
  rintro e w1 ⟨rfl, hb1⟩
  have H1 := Lib.hid (H.out.below hb1)
  have c1 := H1.out.cell hl
  have cf := H1.out.cfree
  have As := Lib.hid (Aside.of_below (g := g) (gc := gc) (gb2 := gb2) hb1)
  clear hb1 hw
  go_wp2_with fail
  go_ret
  exact ⟨rfl, H1.out.put _ x HX.out, As.out.trans (Aside.set_c w1 _ _) (.inl rfl)⟩
theorem newOb_ok {cl kind sz n fill : Nat} (hE : hErr cl kind sz 0 = 0) (hl : cl < 18446744073709551616) (hn : cellsI cl kind sz 0 = n) (hf : fill < 18446744073709551616) : (newOb cl kind sz n fill).Ok := by
  refine ⟨hE, hl, ?_, fun x hx => ?_⟩
  · show cellsI (cl : Int) kind sz ((0 : Nat) : Int) = ((List.replicate n (if kind = 2 then 0 else fill)).length : Int)
    rw [List.length_replicate]; exact hn
  · have := List.eq_of_mem_replicate hx
    rw [this]; split <;> omega
def ObPost (g gb gb2 base size last gc : Nat) (os : List Ob) (r : Value) (w : World) (e : Ending) (w' : World) : Prop := ∃ gc' cap' ws', e = .returned r ∧ ObsAt w' base g gc' cap' gb gb2 size last os ws' ∧ (gc' = gc ∨ w.heap.size ≤ gc') ∧ Aside g gc gb2 w w'
theorem obs_alloc (cl kind sz n fill : Nat) (w : World) (h : ObsAt w base g gc cap gb gb2 size last os ws) (hE : hErr cl kind sz 0 = 0) (hl : cl < 18446744073709551616) (hn : cellsI cl kind sz 0 = n) (hn2 : n ≤ 1048576) (hfit : (Lof os).length + n + 2 ≤ size) (hf : fill < 18446744073709551616) (hbs : base ≤ w.heap.size) :
    Calls Tryd.prog 13 #[.pointer (some ⟨g, 0, none⟩), .int .u64 (cl : Int), .int .i64 (kind : Int), .int .i64 (sz : Int), .int .u64 (fill : Int)] w (ObPost g gb gb2 base size last gc (os ++ [newOb cl kind sz n fill]) (.tuple #[.int .u64 (((Lof os).length : Int) * 2), .int .i64 0]) w) := by
  have hkind : kind = 2 ∨ kind ≠ 2 := by omega
  have hcall : Calls Tryd.prog 13 #[.pointer (some ⟨g, 0, none⟩), .int .u64 (cl : Int), .int .i64 (kind : Int), .int .i64 (sz : Int), .int .u64 (fill : Int)] w (AllocPost g gc gb gb2 base size last cl kind sz n (if kind = 2 then 0 else fill) (Lof os) ws w) := by
    rcases hkind with hk | hk
    · rw [if_pos hk]
      exact alloc_raw cl kind sz n fill w h.heap hE hl hn hn2 hfit h.set.top hk hbs
    · rw [if_neg hk]
      exact alloc_fit cl kind sz n fill w h.heap hE hl hn hn2 hfit h.set.top hk hf hbs
  refine hcall.mono ?_
  rintro e w' ⟨gc', cap', rfl, h3, hgc, has⟩
  refine ⟨gc', cap', flip ws (Lof os).length, rfl, ⟨by rw [Lof_snoc]; exact h3, h.set.snoc (fun k => ?_), fun o ho => ?_⟩, hgc, has⟩
  · rw [bitAt_flip (h.heap.bits.idx (by have := h.heap.room; omega))]
    split
    · next e => rw [h.set.top]; rfl
    · rfl
  · rcases List.mem_append.1 ho with ho | ho
    · exact h.ok o ho
    · rw [List.mem_singleton] at ho
      rw [ho]; exact newOb_ok hE hl hn hf
theorem putOb_ok {o : Ob} (h : o.Ok) {j x : Nat} (hx : x < 18446744073709551616) : (putOb o j x).Ok := by
  refine ⟨h.ok, h.lt, ?_, fun y hy => ?_⟩
  · have := h.len
    unfold putOb
    show _ = ((o.xs.set j x).length : Int)
    rw [List.length_set]; exact this
  · rcases List.mem_or_eq_of_mem_set hy with h1 | rfl
    · exact h.xlt y h1
    · exact hx
theorem obs_put (k j x : Nat) (w : World) (h : ObsAt w base g gc cap gb gb2 size last os ws) (hk : k < os.length) (h2 : os[k].kind ≠ 2) (hj : j < os[k].sz) (hx : x < 18446744073709551616) :
    Calls Tryd.prog 19 #[.pointer (some ⟨g, 0, none⟩), .int .u64 ((pos os k : Int) * 2), .int .i64 (j : Int), .int .u64 (x : Int)] w fun e w' => e = .returned (.int .i64 0) ∧ ObsAt w' base g gc cap gb gb2 size last (os.set k (putOb os[k] j x)) ws ∧ Aside g gc gb2 w w' := by
  have hxs := (h.okAt hk).words h2
  have hp2 := pos_two os k
  have htop := pos_top os hk
  refine (put_yes (pos os k) j _ _ _ _ x _ w h.heap (headIn h.ok hk) (h.bit hk) (by omega) h2 hj (by omega) hx).mono ?_
  rintro e w' ⟨rfl, h3, has⟩
  refine ⟨rfl, ⟨?_, h.set.set hk (by unfold putOb; simp), fun o ho => ?_⟩, has⟩
  · have := Lof_put (x := x) hk (j := j) (by omega)
    unfold putOb
    rw [← this]; exact h3
  · rcases List.mem_or_eq_of_mem_set ho with h1 | h1
    · exact h.ok o h1
    · rw [h1]; exact putOb_ok (h.okAt hk) hx
end
end Go.Proofs.YtahmljjjdoaahaaDoor.Fl

/-
  A graph laid in both heaps: what stands in memory while it is laid.
-/
namespace Go.Proofs.YtahmljjjdoaahaaDoor.Fl
open Go.RowKit

/-- what the document's list stands in has not changed -/
def KeepD (w w' : World) (lo B : Nat) : Prop := ∀ (T : TypeId) (b : Nat) (cur : Array Value), T = 37 ∨ T = 5 ∨ T = 43 → lo ≤ b → b < B → w.heap[b]? = some (Obj.cells cur T (0, 0)) → w'.heap[b]? = w.heap[b]?
theorem DocAt.keepD {w w' : World} {lo B : Nat} {A : Option Addr} {os : List Ob} (h : DocAt w lo B A os) (hk : KeepD w w' lo B) : DocAt w' lo B A os := by
  obtain ⟨us, ⟨h1, h2⟩, h3⟩ := h
  refine ⟨us, ⟨h1, fun k hk' => ?_⟩, h3.keep fun b cur hl hb hc => hk _ b cur (.inr (.inr rfl)) hl hb hc⟩
  obtain ⟨u, hu, ⟨a, c, a', c', e, r1, r2⟩⟩ := h2 k hk'
  exact ⟨u, hu, a, c, a', c', e, r1.keep fun b cur hl hb hc => hk _ b cur (.inl rfl) hl hb hc, r2.keep fun b cur hl hb hc => hk _ b cur (.inr (.inl rfl)) hl hb hc⟩
theorem KeepD.aside {w w' : World} {lo B g gc gb2 : Nat} {cur : Array Value} (h : Aside g gc gb2 w w') (hB : B ≤ w.heap.size) (h1 : g < lo) (h2 : gb2 < lo) (h3 : w.heap[gc]? = some (.cells cur 38 (0, 0))) : KeepD w w' lo B := fun T b cur' hT hl hb hc =>
  h.block b (by omega) (by omega) (by
    rcases hT with rfl | rfl | rfl
    · exact other_type hc h3 (by decide)
    · exact other_type hc h3 (by decide)
    · exact other_type hc h3 (by decide)) (by omega)
/-- numbers of the places -/
structure LayP (lo base g gb gb2 B0 G R W PL NX : Nat) : Prop where
  lg : g < lo
  lgb : gb < lo
  lgb2 : gb2 < lo
  lbase : B0 ≤ base
  lbl : base ≤ lo
  lG : B0 ≤ G
  lR : B0 ≤ R
  lW : B0 ≤ W
  lPL : B0 ≤ PL
  lNX : B0 ≤ NX
  ne : W ≠ R
structure LayS (w0 wr : World) (lo base g gc cap gb gb2 B0 G R W PL NX lk ck cL cp c n : Nat) (AK AL Ap A : Option Addr) (zs : List Int) (ls ps ws : List Nat) (os ds : List Ob) : Prop where
  obs : ObsAt wr base g gc cap gb gb2 200 0 os ws
  doc : DocAt wr lo wr.heap.size A ds
  bG : wr.heap[G]? = some (.cells #[.slice AK lk ck, .slice AL ls.length cL] 25 (0, 0))
  bR : wr.heap[R]? = some (.cells #[.int .i64 0, .slice none 0 0, .int .u32 0] 31 (0, 0))
  bW : wr.heap[W]? = some (.cells #[.int .i64 200, .slice A ds.length c, .int .u32 0] 31 (0, 0))
  bP : wr.heap[PL]? = some (.cells #[.slice Ap ps.length cp] 23 (0, 0))
  bN : wr.heap[NX]? = some (.cells #[.int .i64 (n : Int)] 3 (0, 0))
  rP : Rt wr lo wr.heap.size 37 Ap (cw ps)
  rK : Rd wr B0 AK (zs.map (Value.int .i64))
  rL : Rd wr B0 AL (cw ls)
  bel : Below B0 w0 wr
  size : lo ≤ wr.heap.size
section
variable {w0 wr w' : World} {lo base g gc cap gb gb2 B0 G R W PL NX lk ck cL cp c n : Nat} {AK AL Ap A : Option Addr} {zs : List Int} {ls ps ws : List Nat} {os ds : List Ob}
theorem LayS.below (h : LayS w0 wr lo base g gc cap gb gb2 B0 G R W PL NX lk ck cL cp c n AK AL Ap A zs ls ps ws os ds) (hb : Below wr.heap.size wr w') (hB : B0 ≤ wr.heap.size) : LayS w0 w' lo base g gc cap gb gb2 B0 G R W PL NX lk ck cL cp c n AK AL Ap A zs ls ps ws os ds :=
  ⟨h.obs.below hb, (h.doc.below hb).more hb.size, (hb.block _ (lt_of_block h.bG)).trans h.bG, (hb.block _ (lt_of_block h.bR)).trans h.bR, (hb.block _ (lt_of_block h.bW)).trans h.bW, (hb.block _ (lt_of_block h.bP)).trans h.bP, (hb.block _ (lt_of_block h.bN)).trans h.bN,
    (h.rP.below hb).more hb.size, h.rK.below (hb.mono hB) (Nat.le_refl _), h.rL.below (hb.mono hB) (Nat.le_refl _), h.bel.trans (hb.mono hB), Nat.le_trans h.size hb.size⟩
/-- the program's heap has changed -/
theorem LayS.aside {os' : List Ob} {ws' : List Nat} {gc' cap' : Nat} (h : LayS w0 wr lo base g gc cap gb gb2 B0 G R W PL NX lk ck cL cp c n AK AL Ap A zs ls ps ws os ds) (hp : LayP lo base g gb gb2 B0 G R W PL NX) (hs : Aside g gc gb2 wr w') (ho : ObsAt w' base g gc' cap' gb gb2 200 0 os' ws') : LayS w0 w' lo base g gc' cap' gb gb2 B0 G R W PL NX lk ck cL cp c n AK AL Ap A zs ls ps ws' os' ds := by
  obtain ⟨cur, hcur, hbc, _⟩ := h.obs.heap.row
  obtain ⟨curb, hcb, _⟩ := h.obs.heap.bits.wd
  have hg := h.obs.heap.hd
  have hk : ∀ (b : Nat) (T : TypeId) (cs : Array Value), T ≠ 74 → T ≠ 38 → T ≠ 37 → wr.heap[b]? = some (.cells cs T (0, 0)) → w'.heap[b]? = wr.heap[b]? := fun b T cs h1 h2 h3 hb =>
    hs.block b (lt_of_block hb) (other_type hb hg h1) (other_type hb hcur h2) (other_type hb hcb h3)
  have hB : Below B0 wr w' := hs.below (by have := h.size; have := hp.lbl; have := hp.lbase; omega) (Nat.le_trans hp.lbase h.obs.heap.bg) (Nat.le_trans hp.lbase hbc) (Nat.le_trans hp.lbase h.obs.heap.bb2)
  have hD := KeepD.aside (B := wr.heap.size) hs (Nat.le_refl _) hp.lg hp.lgb2 hcur
  exact ⟨ho, (h.doc.keepD hD).more hs.size, (hk _ _ _ (by decide) (by decide) (by decide) h.bG).trans h.bG, (hk _ _ _ (by decide) (by decide) (by decide) h.bR).trans h.bR, (hk _ _ _ (by decide) (by decide) (by decide) h.bW).trans h.bW,
    (hk _ _ _ (by decide) (by decide) (by decide) h.bP).trans h.bP, (hk _ _ _ (by decide) (by decide) (by decide) h.bN).trans h.bN, (h.rP.keep fun b cur' hl hb hc => hD _ b cur' (.inl rfl) hl hb hc).more hs.size, h.rK.below hB (Nat.le_refl _), h.rL.below hB (Nat.le_refl _), h.bel.trans hB, Nat.le_trans h.size hs.size⟩
/-- one lead more -/
theorem LayS.one {n' : Nat} (h : LayS w0 wr lo base g gc cap gb gb2 B0 G R W PL NX lk ck cL cp c n AK AL Ap A zs ls ps ws os ds) (hp : LayP lo base g gb gb2 B0 G R W PL NX) (hs : One NX wr w') (hn : w'.heap[NX]? = some (.cells #[.int .i64 (n' : Int)] 3 (0, 0))) : LayS w0 w' lo base g gc cap gb gb2 B0 G R W PL NX lk ck cL cp c n' AK AL Ap A zs ls ps ws os ds := by
  have hk : ∀ (b : Nat) (T : TypeId) (cs : Array Value), T ≠ 3 → wr.heap[b]? = some (.cells cs T (0, 0)) → w'.heap[b]? = wr.heap[b]? := fun b T cs h1 hb => hs.block b (other_type hb h.bN h1)
  have hB : Below B0 wr w' := hs.below hp.lNX
  obtain ⟨cur, hcur, _⟩ := h.obs.heap.row
  obtain ⟨curb, hcb, _⟩ := h.obs.heap.bits.wd
  obtain ⟨cc, hb1⟩ := h.obs.heap.bits.hd
  have hD : KeepD wr w' lo wr.heap.size := fun T b cur' hT _ _ hc => hk b T cur' (by rcases hT with rfl | rfl | rfl <;> decide) hc
  exact ⟨⟨h.obs.heap.at_ (hk _ _ _ (by decide) h.obs.heap.hd) (hk _ _ _ (by decide) hcur) (hk _ _ _ (by decide) hb1) (hk _ _ _ (by decide) hcb), h.obs.set, h.obs.ok⟩, (h.doc.keepD hD).more (Nat.le_of_eq hs.size.symm), (hk _ _ _ (by decide) h.bG).trans h.bG, (hk _ _ _ (by decide) h.bR).trans h.bR, (hk _ _ _ (by decide) h.bW).trans h.bW,
    (hk _ _ _ (by decide) h.bP).trans h.bP, hn, (h.rP.keep fun b cur' hl hb hc => hD _ b cur' (.inl rfl) hl hb hc).more (Nat.le_of_eq hs.size.symm), h.rK.below hB (Nat.le_refl _), h.rL.below hB (Nat.le_refl _), h.bel.trans hB, by rw [hs.size]; exact h.size⟩
/-- the document's heap is another one -/
theorem LayS.setW {A' : Option Addr} {c' : Nat} {ds' : List Ob} (h : LayS w0 wr lo base g gc cap gb gb2 B0 G R W PL NX lk ck cL cp c n AK AL Ap A zs ls ps ws os ds) (hp : LayP lo base g gb gb2 B0 G R W PL NX) (hd : DocAt wr lo wr.heap.size A' ds') :
    LayS w0 (((wr.setCell ⟨W, 0, none⟩ (.int .i64 200)).setCell ⟨W, 1, none⟩ (.slice A' ds'.length c')).setCell ⟨W, 2, none⟩ (.int .u32 0)) lo base g gc cap gb gb2 B0 G R W PL NX lk ck cL cp c' n AK AL Ap A' zs ls ps ws os ds' := by
  obtain ⟨w', hw'⟩ : ∃ w', (((wr.setCell ⟨W, 0, none⟩ (.int .i64 200)).setCell ⟨W, 1, none⟩ (.slice A' ds'.length c')).setCell ⟨W, 2, none⟩ (.int .u32 0)) = w' := ⟨_, rfl⟩
  have hW : w'.heap[W]? = some (.cells #[.int .i64 200, .slice A' ds'.length c', .int .u32 0] 31 (0, 0)) := by
    rw [← hw']
    exact heap_setCell_same _ W 2 _ _ (.int .u32 0) (heap_setCell_same _ W 1 _ _ (.slice A' ds'.length c') (heap_setCell_same wr W 0 _ _ (.int .i64 200) h.bW))
  have hs : One W wr w' := by
    rw [← hw']
    exact ⟨rfl, rfl, rfl, by simp [World.setCell], fun k hk => (Below.heap_setCell _ _ _ k hk).trans ((Below.heap_setCell _ _ _ k hk).trans (Below.heap_setCell _ _ _ k hk))⟩
  rw [hw']
  have hk : ∀ (b : Nat) (T : TypeId) (cs : Array Value), T ≠ 31 → wr.heap[b]? = some (.cells cs T (0, 0)) → w'.heap[b]? = wr.heap[b]? := fun b T cs h1 hb => hs.block b (other_type hb h.bW h1)
  have hB : Below B0 wr w' := hs.below hp.lW
  obtain ⟨cur, hcur, _⟩ := h.obs.heap.row
  obtain ⟨curb, hcb, _⟩ := h.obs.heap.bits.wd
  obtain ⟨cc, hb1⟩ := h.obs.heap.bits.hd
  have hD : KeepD wr w' lo wr.heap.size := fun T b cur' hT _ _ hc => hk b T cur' (by rcases hT with rfl | rfl | rfl <;> decide) hc
  exact ⟨⟨h.obs.heap.at_ (hk _ _ _ (by decide) h.obs.heap.hd) (hk _ _ _ (by decide) hcur) (hk _ _ _ (by decide) hb1) (hk _ _ _ (by decide) hcb), h.obs.set, h.obs.ok⟩, (hd.keepD hD).more (Nat.le_of_eq hs.size.symm), (hk _ _ _ (by decide) h.bG).trans h.bG, (hs.block R (fun e => hp.ne e.symm)).trans h.bR, hW,
    (hk _ _ _ (by decide) h.bP).trans h.bP, (hk _ _ _ (by decide) h.bN).trans h.bN, (h.rP.keep fun b cur' hl hb hc => hD _ b cur' (.inl rfl) hl hb hc).more (Nat.le_of_eq hs.size.symm), h.rK.below hB (Nat.le_refl _), h.rL.below hB (Nat.le_refl _), h.bel.trans hB, by rw [hs.size]; exact h.size⟩
end
end Go.Proofs.YtahmljjjdoaahaaDoor.Fl
