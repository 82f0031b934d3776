/-
  The document's own order of all that is led to: foundlingref05's Pointers, Leads, Order.
-/
import Derived.Test.YthppamfhkcdjdaaDoorGRun
import Derived.Test.YthppamfhkcdjdaaDoorHeadD
import Derived.Test.YthppamfhkcdjdaaDoorPDocE
import Derived.Test.YthppamfhkcdjdaaDoorPPut
import Derived.Test.YthppamfhkcdjdaaDoorBools
namespace Go.Proofs.YthppamfhkcdjdaaDoor.Fl
open Go.RowKit

def PtrPost (xs : List Nat) (w : World) (e : Ending) (w' : World) : Prop := ∃ A c, e = .returned (.slice A (ptrs xs).length c) ∧ OwnW w' w.heap.size (.slice A (ptrs xs).length c) (ptrs xs) ∧ Below w.heap.size w w'
theorem ownw_lower {w : World} {base base2 : Nat} {v : Value} {xs : List Nat} (h : OwnW w base v xs) (hb : base2 ≤ base) : OwnW w base2 v xs :=
  ⟨h.1, h.2.imp id (fun ⟨g', cap', cur, e, hb', hg, hr⟩ => ⟨g', cap', cur, e, Nat.le_trans hb hb', hg, hr⟩)⟩
theorem ptrs_len (xs : List Nat) : (ptrs xs).length ≤ xs.length := List.length_filter_le _ _
theorem ptrs_in {xs : List Nat} {k : Nat} (h : k < xs.length) (hw : isW xs[k]) : ptrs (xs.take (k + 1)) = ptrs (xs.take k) ++ [xs[k]] := by
  rw [List.take_succ_eq_append_getElem h]
  unfold ptrs
  rw [List.filter_append, List.filter_cons, if_pos ((ptrs_isW _).2 hw)]; rfl
theorem ptrs_out {xs : List Nat} {k : Nat} (h : k < xs.length) (hw : ¬ isW xs[k]) : ptrs (xs.take (k + 1)) = ptrs (xs.take k) := by
  rw [List.take_succ_eq_append_getElem h]
  unfold ptrs
  rw [List.filter_append, List.filter_cons, if_neg (fun h => hw ((ptrs_isW _).1 h))]; exact List.append_nil _
set_option maxHeartbeats 2000000 in
theorem rpointers_any (A : Option Addr) (c : Nat) (xs : List Nat) (w : World) (hr : Rd w w.heap.size A (cw xs)) (hl : xs.length ≤ 16777300) :
    Calls Tryd.prog 39 #[.slice A xs.length c] w (PtrPost xs w) := by
  have HR := Lib.hid hr
  clear hr
  go_enter Tryd.func39, Tryd.ntmps39
  go_wp2_with fail
  go_loopw [3, 4] (fun u i wr => ∃ k : Nat, k ≤ xs.length ∧ i = .int .i64 (k : Int) ∧ Hid (OwnW wr w.heap.size u (ptrs (xs.take k))) ∧ Hid (Below w.heap.size w wr)) (fun _ i _ => xs.length - (intOf i).toNat)
  case atStart => exact ⟨0, Nat.zero_le _, rfl, Lib.hid (ownw_nil _ _), Lib.hid (Below.refl _ _)⟩
  case round =>
    obtain ⟨k, hk, rfl, HO, HB⟩ := hrel
    by_cases hlt : k < xs.length
    · obtain ⟨b, off, rfl, hb, hcell⟩ := rdw_at (HR.out.below HB.out (Nat.le_refl _)) hlt
      have hpl : (ptrs (xs.take k)).length ≤ 16777300 := by
        have := ptrs_len (xs.take k); rw [List.length_take] at this; omega
      by_cases h0 : xs[k] = 0
      · have hn : ¬ isW xs[k] := fun h => h (.inl h0)
        have hpn := ptrs_out hlt hn
        have HO2 : Hid (OwnW wr w.heap.size u3 (ptrs (xs.take (k + 1)))) := Lib.hid (by rw [hpn]; exact HO.out)
        rw [h0] at hcell
        clear hpn hpl HO
        go_wp2_with fail
        go_roundw
        case rel => exact ⟨k + 1, by omega, by simp, HO2, HB⟩
        case measure => simp [intOf]; omega
      · by_cases h1 : xs[k] % 2 = 1
        · have hn : ¬ isW xs[k] := fun h => h (.inr h1)
          have hpn := ptrs_out hlt hn
          have HO2 : Hid (OwnW wr w.heap.size u3 (ptrs (xs.take (k + 1)))) := Lib.hid (by rw [hpn]; exact HO.out)
          have his := fun w' => ris_odd (xs[k] : Int) w' (by omega) (by omega)
          have hne : ((xs[k] : Int) != 0) = true := by simp; omega
          clear hpn hpl HO
          go_wp2_with (go_at_call 81; (with_reducible refine (his _).mono ?_); rintro e w' ⟨rfl, rfl⟩)
          go_roundw
          case rel => exact ⟨k + 1, by omega, by simp, HO2, HB⟩
          case measure => simp [intOf]; omega
        · have hn : isW xs[k] := fun h => h.elim h0 h1
          have hpn := ptrs_in hlt hn
          have his := fun w' => ris_even (xs[k] : Int) w' (by omega) (by omega)
          have hne : ((xs[k] : Int) != 0) = true := by simp; omega
          have HP := Lib.hid hpn
          clear hpn
          generalize xs[k] = x at *
          obtain ⟨i0, hi, hz0, hz1, hz2⟩ := info_parts u64info
          go_wp2_with (first
            | (go_at_call 81; (with_reducible refine (his _).mono ?_); rintro e w' ⟨rfl, rfl⟩)
            | (at_builtin; refine wpList_append_own _ rfl _ _ 23 rfl w.heap.size 43 i0 (.int .u64 0) 1 8 Tryd.underlying23 hi hz0 hz1 hz2 rfl (by decide) _ _ _ rfl (World.ownsRow.alloc HO.out _) ⟨wr.heap.size, 0, none⟩ 1 1 [.int .u64 (x : Int)] rfl rfl ?c1 ?c2 ?c3 ?c4 ?c5 ?_))
          case c1 => exact lone_cell wr _ _
          case c2 => exact lone_onew _
          case c3 => unfold maxLen; omega
          case c4 => omega
          case c5 => have := HB.out.size; simp; omega
          · intro v' w2 hown' hgrow _
            have R1 : Hid (OwnW w2 w.heap.size v' (ptrs (xs.take (k + 1)))) := Lib.hid (by rw [HP.out]; exact ownw_push hown')
            have R2 := Lib.hid ((HB.out.alloc (by have := HB.out.size; omega) _).grown hgrow (by have := HB.out.size; simp; omega) (fun j hj => OwnW.lt HO.out j hj))
            clear hown' hgrow HO HB hz0 hz1 hz2 hi
            go_wp2_with fail
            go_roundw
            case rel => exact ⟨k + 1, by omega, by simp, R1, R2⟩
            case measure => simp [intOf]; omega
    · have e : xs.take k = xs := List.take_of_length_le (by omega)
      have hO := HO.out
      rw [e] at hO
      obtain ⟨A', c', rfl, -, -⟩ := ownw_rd hO
      have HR2 := Lib.hid hO
      clear hO HO e
      go_wp2_with fail
      go_ret
      exact ⟨A', c', rfl, HR2.out, HB.out⟩
theorem own_lone (w : World) (v : Value) (e : TypeId) (base : Nat) (hb : base ≤ w.heap.size) : (w.alloc (.cells #[v] e)).ownsRow base e 1 (.slice (some ⟨w.heap.size, 0, none⟩) 1 1) 1 [v] :=
  ⟨by simp, .inr ⟨w.heap.size, 1, #[v], rfl, hb, heap_alloc_new w _, Nat.le_refl _, by unfold maxLen; omega, by simp, by simp⟩⟩
theorem leads_words (o : Ob) : o.leads = o.cl :: o.words := rfl
set_option maxRecDepth 100000 in
set_option maxHeartbeats 2000000 in
theorem rleads_any {lo B : Nat} {A : Option Addr} {os : List Ob} (size last : Int) (c k : Nat) (w : World) (h : DocAt w lo B A os) (hB : B ≤ w.heap.size) (hl : (Lof os).length ≤ 16777216) (hok : ∀ o ∈ os, o.Ok) (hk : k < os.length) :
    Calls Tryd.prog 41 #[.agg #[.int .i64 size, .slice A os.length c, .int .u32 last], .int .i64 (k : Int)] w (PtrPost os[k].leads w) := by
  obtain ⟨wr, hwr⟩ : ∃ wr, w.alloc (.cells #[.int .i64 size, .slice A os.length c, .int .u32 last] 31) = wr := ⟨_, rfl⟩
  have B1 : wr.heap[w.heap.size]? = some (.cells #[.int .i64 size, .slice A os.length c, .int .u32 last] 31 (0, 0)) := by rw [← hwr]; exact heap_alloc_new w _
  have hbr : Below w.heap.size w wr := by rw [← hwr]; exact (Below.refl _ _).alloc (Nat.le_refl _) _
  have f1 := cells3 B1
  have hHB := Lib.hid hbr
  obtain ⟨b, off, Aw, cA, Ab, cB, rfl, hb, d0, d1, d2, d3, d4, d5, d6, d7, hw, _⟩ := (h.below (hbr.mono hB)).at_ hk
  have hwl : os[k].words.length ≤ 16777216 := by
    have h1 := pos_top os hk
    have h2 : os[k].words.length ≤ os[k].xs.length := by unfold Ob.words; split <;> simp
    omega
  have hA : Aw = none → os[k].words.length = 0 := fun e => by
    subst e
    rcases hw with hw | ⟨_, _, e, _⟩
    · rw [← cw_len, hw]; rfl
    · cases e
  have hkk : k < os.length := hk
  have hon : os.length ≤ 16777216 := by
    have := pos_all os
    have := pos_ge os (k := os.length) (Nat.le_refl _)
    omega
  have hP := pos_top os hk
  have hbB : b < wr.heap.size := Nat.lt_of_lt_of_le hb (Nat.le_trans hB hbr.size)
  rw [leads_words]
  clear h hbr B1 hok
  generalize os[k] = o at *
  generalize pos os k = P at *
  have HW := Lib.hid hw
  have HA := Lib.hid hA
  have HBr : Hid (B ≤ wr.heap.size) := Lib.hid (Nat.le_trans hB hHB.out.size)
  clear hw hA
  generalize o.words = ws at *
  obtain ⟨i0, hi, hz0, hz1, hz2⟩ := info_parts u64info
  go_enter Tryd.func41, Tryd.ntmps41
  go_upto_region 2 with fail
  obtain ⟨w2, hw2⟩ : ∃ w2, wr.alloc (.cells #[.int .i64 (P : Int), .int .u64 (o.cl : Int), .int .i64 (o.kind : Int), .int .i64 (o.sz : Int), .int .u32 (o.hash : Int), .bool o.mark, .slice Aw ws.length cA, .slice Ab o.bytes.length cB] 48) = w2 := ⟨_, rfl⟩
  have B2 : w2.heap[wr.heap.size]? = some (.cells #[.int .i64 (P : Int), .int .u64 (o.cl : Int), .int .i64 (o.kind : Int), .int .i64 (o.sz : Int), .int .u32 (o.hash : Int), .bool o.mark, .slice Aw ws.length cA, .slice Ab o.bytes.length cB] 48 (0, 0)) := by rw [← hw2]; exact heap_alloc_new wr _
  have hb2 : Below wr.heap.size wr w2 := by rw [← hw2]; exact (Below.refl _ _).alloc (Nat.le_refl _) _
  have f2 := cells8 B2
  have HB2 := Lib.hid (hHB.out.trans (hb2.mono hHB.out.size))
  have HR2 := Lib.hid (((HW.out.below hb2 HBr.out).more HBr.out).more hb2.size)
  have l1 : wr.heap.size < w2.heap.size := by rw [← hw2]; simp
  rw [hw2]
  clear hw2 hb2 B2 HW HBr hHB f1 d0 d1 d2 d3 d4 d5 d6 d7
  generalize o.cl = cl at *
  go_wp2_with (at_builtin; refine wpList_append_rd (base := w.heap.size) (B := w2.heap.size) (size := 1) (bytes := 8) (n := 1) (m := ws.length) (c := cA) (A := Aw) (xs := [.int .u64 (cl : Int)]) (news := cw ws) rfl _ _ rfl Tryd.underlying23 hi hz0 hz1 hz2 rfl (by decide) rfl rfl (own_lone _ _ 43 _ HB2.out.size) (HR2.out.below ((Below.refl _ _).alloc (Nat.le_refl _) _) (Nat.le_refl _)) (by rw [cw_len]; omega) HA.out (cw_one ws) (by unfold maxLen; omega) (by omega) (by have := HB2.out.size; simp; omega) ?_)
  intro v' w3 happ
  obtain ⟨A2, c2, hv, -, -⟩ := happ.slice
  subst hv
  have hr3 : Rd w3 w3.heap.size A2 (cw (cl :: ws)) := ownsRow_rd happ.own
  have hb3 : Below w.heap.size w w3 := happ.below (HB2.out.alloc HB2.out.size _) (fun k hk => (World.ownsRow.lt (own_lone w2 (.int .u64 (cl : Int)) 43 w.heap.size HB2.out.size) k hk).1)
  have hlen : (cl :: ws).length = 1 + ws.length := by rw [List.length_cons]; omega
  have hpt := rpointers_any A2 c2 (cl :: ws) w3 hr3 (by omega)
  rw [hlen] at hpt
  have HB3 := Lib.hid hb3
  clear happ hr3 hb3 hlen hi hz0 hz1 hz2 HB2 HR2 HA f2
  go_wp2_with fail
  refine hpt.mono ?_
  rintro e w4 ⟨A4, c4, rfl, hr4, hb4⟩
  have HR4 := Lib.hid (ownw_lower hr4 HB3.out.size)
  have HB4 := Lib.hid (HB3.out.trans (hb4.mono HB3.out.size))
  clear hpt hr4 hb4
  go_wp2_with fail
  go_ret
  exact ⟨A4, c4, rfl, HR4.out, HB4.out⟩

/-- objects by their places -/
def PP (os : List Ob) (ks : List Nat) : List Nat := ks.map fun k => 2 * pos os k
def iv (ks : List Nat) : List Value := ks.map fun (k : Nat) => Value.int .i64 (k : Int)
theorem iv_len (ks : List Nat) : (iv ks).length = ks.length := by simp [iv]
theorem iv_one (ks : List Nat) : ∀ u ∈ iv ks, u.oneCell' = true := by
  intro u hu; simp [iv] at hu; obtain ⟨x, _, rfl⟩ := hu; rfl
def mets (os : List Ob) (ks : List Nat) : List Bool := (List.range os.length).map fun k => decide (k ∈ ks)
theorem mets_len (os : List Ob) (ks : List Nat) : (mets os ks).length = os.length := by simp [mets]
theorem mets_nil (os : List Ob) : mets os [] = List.replicate os.length false := by
  apply List.ext_getElem (by simp [mets])
  intro i h1 h2
  simp [mets]
theorem mets_at {os : List Ob} (ks : List Nat) {k : Nat} (h : k < os.length) : (mets os ks)[k]'(by rw [mets_len]; exact h) = decide (k ∈ ks) := by simp [mets]
theorem mets_add {os : List Ob} (ks : List Nat) {k : Nat} : (mets os ks).set k true = mets os (ks ++ [k]) := by
  apply List.ext_getElem (by simp [mets])
  intro j h1 h2
  have hj : j < os.length := by simpa [mets] using h2
  rw [List.getElem_set, mets_at _ hj, mets_at _ hj]
  by_cases e : k = j
  · subst e; simp
  · rw [if_neg e, decide_eq_decide, List.mem_append, List.mem_singleton]
    exact ⟨.inl, fun h => h.elim id (fun h => absurd h.symm e)⟩
theorem mem_PP {os : List Ob} {ks : List Nat} {k : Nat} (hk : k < os.length) (hks : ∀ j ∈ ks, j < os.length) : 2 * pos os k ∈ PP os ks ↔ k ∈ ks := by
  unfold PP
  rw [List.mem_map]
  exact ⟨fun ⟨j, hj, e⟩ => by rw [← pos_inj os (hks j hj) hk (by omega)]; exact hj, fun h => ⟨k, h, rfl⟩⟩
theorem PP_snoc (os : List Ob) (ks : List Nat) (k : Nat) : PP os (ks ++ [k]) = PP os ks ++ [2 * pos os k] := by simp [PP]
theorem PP_len (os : List Ob) (ks : List Nat) : (PP os ks).length = ks.length := by simp [PP]
theorem sumC_two : ∀ l : List Nat, sumC (fun _ => 0) l = 2 * l.length
  | [] => rfl
  | x :: t => by rw [sumC, sumC_two t, List.length_cons]; omega
theorem ks_len {ks : List Nat} {n : Nat} (hn : ks.Nodup) (h : ∀ k ∈ ks, k < n) : ks.length ≤ n := by
  have := sumC_sub (fun _ => 0) ks (List.range n) hn (fun x hx => List.mem_range.2 (h x hx))
  rw [sumC_two, sumC_two, List.length_range] at this
  omega
/-- as many were asked, and so much is found -/
def RunTo (os : List Ob) (ws rs : List Nat) (m : Nat) (f : List Nat) : Prop := ∃ f0, findL ws [] rs = some f0 ∧ Run (ldOf os) ws f0 f m
structure OrdI (os : List Ob) (ws rs : List Nat) (m : Nat) (ks nw : List Nat) : Prop where
  nd : ks.Nodup
  lt : ∀ k ∈ ks, k < os.length
  word : ∀ x ∈ nw, isW x
  cont : (m ≤ ks.length ∧ ∀ f', findL ws (PP os ks) nw = some f' → RunTo os ws rs m f') ∨ (m = ks.length + 1 ∧ nw = [] ∧ RunTo os ws rs ks.length (PP os ks))
structure OrdJ (os : List Ob) (ws : List Nat) (R : Option (List Nat)) (ks nw : List Nat) : Prop where
  nd : ks.Nodup
  lt : ∀ k ∈ ks, k < os.length
  same : findL ws (PP os ks) nw = R
theorem ptrs_word (xs : List Nat) : ∀ x ∈ ptrs xs, isW x := fun x hx => (ptrs_isW x).1 (List.mem_filter.1 hx).2
theorem OrdI.start (os : List Ob) (ws rs : List Nat) : OrdI os ws rs 0 [] (ptrs rs) :=
  ⟨List.nodup_nil, fun k hk => (by cases hk), ptrs_word rs, .inl ⟨Nat.le_refl _, fun f' h => ⟨f', by rw [findL_ptrs] at h; exact h, .zero⟩⟩⟩
/-- behind all the words -/
theorem OrdI.done {os : List Ob} {ws rs : List Nat} {m : Nat} {ks nw ks' : List Nat} (h : OrdI os ws rs m ks nw) (hm : m ≤ ks.length) (j : OrdJ os ws (findL ws (PP os ks) nw) ks' []) : RunTo os ws rs m (PP os ks') ∧ ks.length ≤ ks'.length := by
  have e : findL ws (PP os ks) nw = some (PP os ks') := by rw [← j.same]; rfl
  rcases h.cont with ⟨_, h2⟩ | ⟨h1, _, _⟩
  · obtain ⟨r, hr⟩ := findL_pre e
    have := congrArg List.length hr
    rw [List.length_append, PP_len, PP_len] at this
    exact ⟨h2 _ e, by omega⟩
  · omega
theorem OrdI.last {os : List Ob} {ws rs : List Nat} {ks : List Nat} (hn : ks.Nodup) (hl : ∀ k ∈ ks, k < os.length) (h : RunTo os ws rs ks.length (PP os ks)) : OrdI os ws rs (ks.length + 1) ks [] :=
  ⟨hn, hl, fun x hx => (by cases hx), .inr ⟨rfl, rfl, h⟩⟩
theorem OrdI.more {os : List Ob} {ws rs : List Nat} {ks : List Nat} {m : Nat} (hn : ks.Nodup) (hl : ∀ k ∈ ks, k < os.length) (h : RunTo os ws rs m (PP os ks)) (hm : m < ks.length) : OrdI os ws rs (m + 1) ks (ptrs (os[ks[m]]'(hl _ (List.getElem_mem hm))).leads) := by
  refine ⟨hn, hl, ptrs_word _, .inl ⟨hm, fun f' hf => ?_⟩⟩
  obtain ⟨f0, h0, hr⟩ := h
  rw [findL_ptrs] at hf
  have hm2 : m < (PP os ks).length := by rw [PP_len]; exact hm
  refine ⟨f0, h0, .step hr hm2 ?_⟩
  have e : (PP os ks)[m] = 2 * pos os ks[m] := by simp [PP]
  rw [e, ldOf_pos os (hl _ (List.getElem_mem hm))]
  exact hf
/-- one word -/
theorem OrdJ.in_ {os : List Ob} {ws : List Nat} {R : Option (List Nat)} {ks nw : List Nat} {x : Nat} (h : OrdJ os ws R ks (x :: nw)) (hP : isP ws x) (hm : x ∈ PP os ks) : OrdJ os ws R ks nw :=
  ⟨h.nd, h.lt, by rw [← h.same, findL, find1_in hP hm]; rfl⟩
theorem OrdJ.new {os : List Ob} {ws : List Nat} {R : Option (List Nat)} {ks nw : List Nat} {k : Nat} (h : OrdJ os ws R ks (2 * pos os k :: nw)) (hk : k < os.length) (hP : isP ws (2 * pos os k)) (hm : k ∉ ks) : OrdJ os ws R (ks ++ [k]) nw := by
  refine ⟨List.nodup_append.2 ⟨h.nd, by simp, fun a ha b hb e => hm (by rw [List.mem_singleton] at hb; subst hb; subst e; exact ha)⟩, fun j hj => ?_, ?_⟩
  · rw [List.mem_append, List.mem_singleton] at hj
    rcases hj with hj | rfl
    · exact h.lt j hj
    · exact hk
  · rw [← h.same, findL, find1_new hP (fun h2 => hm ((mem_PP hk h.lt).1 h2)), PP_snoc]; rfl
theorem row_other {w : World} {base n : Nat} {e T : TypeId} {v : Value} {xs : List Value} (h : w.ownsRow base e 1 v n xs) {b : Nat} {cur : Array Value} (hb : w.heap[b]? = some (.cells cur T (0, 0))) (hT : T ≠ e) : some b ≠ v.ownBlock := by
  intro he
  rcases h.2 with ⟨rfl, _⟩ | ⟨g, cap, cur', rfl, _, hg, _⟩
  · cases he
  · injection he with he
    subst he
    rw [hb] at hg
    injection hg with hg
    injection hg with _ hg _
    exact hT hg
/-- what stands while the document's order is found -/
structure OrdW (w0 w : World) (G : Nat) (os : List Ob) (ks mt : List Nat) (v nv : Value) (nw : List Nat) : Prop where
  row : w.ownsRow w0.heap.size 3 1 v ks.length (iv ks)
  now : OwnW w w0.heap.size nv nw
  met : LAt w G (mets os mt)
  bel : Below w0.heap.size w0 w
section
variable {w0 w w' : World} {G : Nat} {os : List Ob} {ks mt nw : List Nat} {v nv : Value}
theorem row_at {w w' : World} {base n : Nat} {e : TypeId} {v : Value} {xs : List Value} (h : w.ownsRow base e 1 v n xs) (hk : ∀ (b : Nat) (cur : Array Value), w.heap[b]? = some (Obj.cells cur e (0, 0)) → w'.heap[b]? = w.heap[b]?) : w'.ownsRow base e 1 v n xs := by
  refine ⟨h.1, ?_⟩
  rcases h.2 with h0 | ⟨g, cap, cur, e, hb, hg, hr⟩
  · exact .inl h0
  · exact .inr ⟨g, cap, cur, e, hb, (hk g cur hg).trans hg, hr⟩
theorem OrdW.below (h : OrdW w0 w G os ks mt v nv nw) (hb : Below w.heap.size w w') : OrdW w0 w' G os ks mt v nv nw :=
  ⟨row_at h.row fun b cur hc => hb.block b (lt_of_block hc), ownw_at h.now fun b cur hc => hb.block b (lt_of_block hc), h.met.at_ (hb.block _ h.met.lt), h.bel.trans (hb.mono h.bel.size)⟩
theorem OrdW.set (h : OrdW w0 w G os ks mt v nv nw) (hG : w0.heap.size ≤ G) (k : Nat) : OrdW w0 (w.setCell ⟨G, k, none⟩ (.bool true)) G os ks (mt ++ [k]) v nv nw :=
  ⟨row_at h.row fun b cur hc => Below.heap_setCell _ _ _ _ (fun e => by subst e; have := h.met; unfold LAt at this; rw [hc] at this; injection this with this; injection this with _ this _; exact absurd this (by decide)),
   ownw_at h.now fun b cur hc => Below.heap_setCell _ _ _ _ (fun e => by subst e; have := h.met; unfold LAt at this; rw [hc] at this; injection this with this; injection this with _ this _; exact absurd this (by decide)),
   by rw [← mets_add]; exact h.met.set k true, h.bel.setCell hG _⟩
theorem OrdW.push (h : OrdW w0 w G os ks mt v nv nw) {o : Obj} {v' : Value} {k : Nat} (hown : w'.ownsRow w0.heap.size 3 1 v' (ks.length + 1) (iv ks ++ [.int .i64 (k : Int)])) (hg : (w.alloc o).grownBy w' v.ownBlock) : OrdW w0 w' G os (ks ++ [k]) mt v' nv nw := by
  refine ⟨?_, ownw_at h.now fun b cur hc => ?_, h.met.at_ ?_, ?_⟩
  · have e : iv (ks ++ [k]) = iv ks ++ [.int .i64 (k : Int)] := by simp [iv]
    rw [e, List.length_append]; exact hown
  · have hlt := lt_of_block hc
    have hc2 : (w.alloc o).heap[b]? = w.heap[b]? := heap_alloc_old w o hlt
    exact (hg.block b (by simp; omega) (row_other h.row hc (by decide))).trans hc2
  · have hlt := h.met.lt
    exact (hg.block G (by simp; omega) (row_other h.row h.met (by decide))).trans (heap_alloc_old w o hlt)
  · exact (h.bel.alloc h.bel.size o).grown hg (by have := h.bel.size; simp; omega) (fun k hk => (World.ownsRow.lt h.row k hk).1)
theorem intinfo : (Tryd.prog.info? 3).map (fun i => (i.zero, i.size, i.bytes)) = some (some (.int .i64 0), 1, 8) := by kernel_rfl
end
theorem row_zero {w : World} {base n : Nat} {e : TypeId} {v : Value} {xs : List Value} (h : w.ownsRow base e 1 v n xs) : w.ownsRow 0 e 1 v n xs :=
  ⟨h.1, h.2.imp id (fun ⟨g', cap', cur, e, _, hg, hr⟩ => ⟨g', cap', cur, e, Nat.zero_le _, hg, hr⟩)⟩
def ROrdPost (os : List Ob) (ws rs : List Nat) (w : World) (e : Ending) (w' : World) : Prop :=
  (∃ v, e = .returned (.tuple #[v, .bool false]) ∧ Below w.heap.size w w') ∨
  ∃ ks A c, e = .returned (.tuple #[.slice A ks.length c, .bool true]) ∧ w'.ownsRow 0 3 1 (.slice A ks.length c) ks.length (iv ks) ∧ ks.Nodup ∧ (∀ k ∈ ks, k < os.length) ∧ RunTo os ws rs ks.length (PP os ks) ∧ Below w.heap.size w w'
set_option maxRecDepth 100000 in
set_option maxHeartbeats 4000000 in
theorem rorder_any {lo B : Nat} {A : Option Addr} {os : List Ob} {ws : List Nat} (size last : Int) (c cR : Nat) (AR : Option Addr) (rs : List Nat) (w : World) (h : DocAt w lo B A os) (hB : B ≤ w.heap.size) (hl : (Lof os).length ≤ 16777216) (hok : ∀ o ∈ os, o.Ok)
    (hisP : ∀ p, isP ws p ↔ ∃ k, k < os.length ∧ p = 2 * pos os k) (hr : Rd w w.heap.size AR (cw rs)) (hrl : rs.length ≤ 16777300) :
    Calls Tryd.prog 10 #[.agg #[.int .i64 size, .slice A os.length c, .int .u32 last], .slice AR rs.length cR] w (ROrdPost os ws rs w) := by
  obtain ⟨wr0, hwr⟩ : ∃ wr, w.alloc (.cells #[.int .i64 size, .slice A os.length c, .int .u32 last] 31) = wr := ⟨_, rfl⟩
  have B1 : wr0.heap[w.heap.size]? = some (.cells #[.int .i64 size, .slice A os.length c, .int .u32 last] 31 (0, 0)) := by rw [← hwr]; exact heap_alloc_new w _
  have hbr : Below w.heap.size w wr0 := by rw [← hwr]; exact (Below.refl _ _).alloc (Nat.le_refl _) _
  have hs1 : wr0.heap.size = w.heap.size + 1 := by rw [← hwr]; simp
  have HD := Lib.hid (h.below (hbr.mono hB))
  have hrr := hr.below hbr (Nat.le_refl _)
  have HBr := Lib.hid hbr
  have HB1 := Lib.hid B1
  have HIs := Lib.hid hisP
  have HOk := Lib.hid hok
  have HBB : Hid (B ≤ wr0.heap.size) := Lib.hid (Nat.le_trans hB hbr.size)
  have hon : os.length ≤ 16777216 := by
    have := pos_all os
    have := pos_ge os (k := os.length) (Nat.le_refl _)
    omega
  have hmk := fun w' => make_bools os.length hon w'
  have f1 := cells3 B1
  have HS1 := Lib.hid hs1
  clear h hr hbr B1 hisP hok hs1
  go_enter Tryd.func10, Tryd.ntmps10
  go_wp2_with fail
  obtain ⟨w2, hw2⟩ : ∃ w2, wr0.alloc (.cells (bl (List.replicate os.length false)).toArray 4) = w2 := ⟨_, rfl⟩
  have hb2 : Below wr0.heap.size wr0 w2 := by rw [← hw2]; exact (Below.refl _ _).alloc (Nat.le_refl _) _
  have hL2 : LAt w2 wr0.heap.size (mets os []) := by rw [mets_nil, ← hw2]; exact heap_alloc_new wr0 _
  have hpt := rpointers_any AR cR rs w2 ((hrr.below (hb2.mono (by have := HS1.out; omega)) (Nat.le_refl _)).more (by have := hb2.size; have := HS1.out; omega)) hrl
  have HB2 := Lib.hid hb2
  have HL2 := Lib.hid hL2
  rw [hw2]
  clear hw2 hb2 hL2 hrr hmk f1 hwr
  obtain ⟨G, hG⟩ : ∃ G, wr0.heap.size = G := ⟨_, rfl⟩
  have HG := Lib.hid (show wr0.heap.size ≤ G from Nat.le_of_eq hG)
  rw [hG] at HL2
  rw [hG]
  clear hG
  refine hpt.mono ?_
  rintro e w3 ⟨A3, c3, rfl, ho3, hb3⟩
  have HW3 : Hid (OrdW wr0 w3 G os [] [] (.slice none 0 0) (.slice A3 (ptrs rs).length c3) (ptrs rs)) := Lib.hid ⟨World.ownsRow_nil _ _ _ _, ownw_lower ho3 HB2.out.size, HL2.out.at_ (hb3.block _ HL2.out.lt), HB2.out.trans (hb3.mono HB2.out.size)⟩
  have hpl : (ptrs rs).length ≤ 16777300 := Nat.le_trans (ptrs_len rs) hrl
  have HI3 := Lib.hid (OrdI.start os ws rs)
  clear hpt ho3 hb3 HB2 HL2 hrl
  generalize ptrs rs = nw0 at *
  go_wp2_with fail
  go_loopw [6, 8, 9] (fun o nv av wr => ∃ (m : Nat) (ks : List Nat) (A1 : Option Addr) (c1 : Nat) (A2 : Option Addr) (c2 : Nat) (nw : List Nat), av = .int .i64 (m : Int) ∧ o = .slice A1 ks.length c1 ∧ nv = .slice A2 nw.length c2 ∧ nw.length ≤ 16777300 ∧ m ≤ os.length + 1 ∧ Hid (OrdI os ws rs m ks nw) ∧ Hid (OrdW wr0 wr G os ks ks o nv nw)) (fun _ _ av _ => os.length + 2 - (intOf av).toNat)
  case atStart => exact ⟨0, [], none, 0, A3, c3, nw0, rfl, rfl, rfl, hpl, Nat.zero_le _, HI3, HW3⟩
  case round =>
    clear HI3 HW3 hpl
    obtain ⟨m, ks, A1, c1, A2, c2, nw, rfl, rfl, rfl, hnl, hmo, HI, HW⟩ := hrel
    have hBw : B ≤ wr.heap.size := Nat.le_trans HBB.out HW.out.bel.size
    by_cases hm : m ≤ ks.length
    · have HJ0 : Hid (OrdJ os ws (findL ws (PP os ks) nw) ks (nw.drop 0)) := Lib.hid ⟨HI.out.nd, HI.out.lt, rfl⟩
      have HM := Lib.hid hm
      go_wp2_with fail
      go_loopw [6, 10] (fun o iv wx => ∃ (i : Nat) (ks' : List Nat) (A1 : Option Addr) (c1 : Nat), i ≤ nw.length ∧ iv = .int .i64 (i : Int) ∧ o = .slice A1 ks'.length c1 ∧ Hid (OrdJ os ws (findL ws (PP os ks) nw) ks' (nw.drop i)) ∧ Hid (OrdW wr0 wx G os ks' ks' o (.slice A2 nw.length c2) nw)) (fun _ iv _ => nw.length - (intOf iv).toNat)
      case atStart => exact ⟨0, ks, A1, c1, Nat.zero_le _, rfl, rfl, HJ0, HW⟩
      case round =>
        clear HJ0 HW hBw
        obtain ⟨i, ks', A3, c3, hi, rfl, rfl, HJ, HW⟩ := hrel
        have hBw : B ≤ wr.heap.size := Nat.le_trans HBB.out HW.out.bel.size
        have HDw : Hid (DocAt wr lo B A os) := Lib.hid (HD.out.below (HW.out.bel.mono HBB.out))
        have hSlt : w.heap.size < wr.heap.size := by have := HS1.out; have := HW.out.bel.size; omega
        have f1 := cells3 ((HW.out.bel.block _ (by have := HS1.out; omega)).trans HB1.out)
        have hkl := ks_len HJ.out.nd HJ.out.lt
        by_cases hlt : i < nw.length
        · obtain ⟨A2', c2', e2, hr2, -⟩ := ownw_rd HW.out.now
          injection e2 with e2 _ e3
          subst e2 e3
          obtain ⟨b, off, rfl, hb, hcell⟩ := rdw_at hr2 hlt
          have HJ' : Hid (OrdJ os ws (findL ws (PP os ks) nw) ks' (nw[i] :: nw.drop (i + 1))) := Lib.hid (by rw [← List.drop_eq_getElem_cons hlt]; exact HJ.out)
          have hfd := fun (y : Grow wr) => rfind_any size last c nw[i] y.w (HDw.out.below (y.below.mono hBw)) (Nat.le_trans hBw y.size) hl
          clear hr2
          generalize nw[i] = x at *
          by_cases hP : ∃ k, k < os.length ∧ x = 2 * pos os k
          · obtain ⟨k, hk, hxk⟩ := hP
            have hPx := (HIs.out x).2 ⟨k, hk, hxk⟩
            rw [show findI os x = (k : Int) by rw [hxk, findI_pos os hk]] at hfd
            have HFd := Lib.hid hfd
            have hcl := HW.out.met.cell (k := k) (by rw [mets_len]; exact hk)
            rw [mets_at _ hk] at hcl
            have hGl := HW.out.met.lt
            clear hfd
            by_cases hm2 : k ∈ ks'
            · rw [decide_eq_true hm2] at hcl
              have HJ2 := Lib.hid (HJ'.out.in_ hPx (by rw [hxk]; exact (mem_PP hk HJ.out.lt).2 hm2))
              clear hPx hxk HJ' hm2
              go_wp2_with fail
              have hx := fun (y : Grow wr) => y.cell
              refine wp_region_grow (by kernel_rfl) (by kernel_rfl) ?_
              repeat (go_big_quiet_step ((go_at_call 40; exact Grow.call _ (HFd.out _))))
              refine wpQuiet_nil ?_
              intro _ hw'
              obtain ⟨y, rfl⟩ := hw'
              have HWy := Lib.hid (HW.out.below y.below)
              have hcl' := (y.cell G k hGl).trans hcl
              clear hx f1 hcell hcl HFd HW HDw
              go_wp2_with fail
              go_roundw
              case rel => exact ⟨i + 1, ks', A3, c3, by omega, by simp, rfl, HJ2, HWy⟩
              case measure => simp [intOf]; omega
            · rw [decide_eq_false hm2] at hcl
              have HJ2 : Hid (OrdJ os ws (findL ws (PP os ks) nw) (ks' ++ [k]) (nw.drop (i + 1))) := Lib.hid (OrdJ.new (by rw [← hxk]; exact HJ'.out) hk (by rw [← hxk]; exact hPx) hm2)
              clear hPx hxk HJ' hm2
              go_wp2_with fail
              have hx := fun (y : Grow wr) => y.cell
              refine wp_region_grow (by kernel_rfl) (by kernel_rfl) ?_
              repeat (go_big_quiet_step ((go_at_call 40; exact Grow.call _ (HFd.out _))))
              refine wpQuiet_nil ?_
              intro _ hw'
              obtain ⟨y, rfl⟩ := hw'
              have HWy := Lib.hid (HW.out.below y.below)
              have hcl' := (y.cell G k hGl).trans hcl
              have hfr := HWy.out.met.free k
              clear hx f1 hcell hcl HFd HW HDw
              go_upto_region 15 with fail
              obtain ⟨w5, hw5⟩ : ∃ w5, y.w.setCell ⟨G, k, none⟩ (.bool true) = w5 := ⟨_, rfl⟩
              have HW5 := Lib.hid (HWy.out.set HG.out k)
              rw [hw5] at HW5
              rw [hw5]
              clear hw5 hcl' hfr HWy
              obtain ⟨i0, hi0, hz0, hz1, hz2⟩ := info_parts intinfo
              go_wp2_with (at_builtin; refine wpList_append_own _ rfl _ _ 22 rfl wr0.heap.size 3 i0 (.int .i64 0) 1 8 Tryd.underlying22 hi0 hz0 hz1 hz2 rfl (by decide) _ _ _ rfl (World.ownsRow.alloc HW5.out.row _) ⟨w5.heap.size, 0, none⟩ 1 1 [.int .i64 (k : Int)] rfl rfl ?c1 ?c2 ?c3 ?c4 ?c5 ?_)
              case c1 => exact lone_cell w5 _ _
              case c2 => intro u hu; simp at hu; subst hu; rfl
              case c3 => unfold maxLen; omega
              case c4 => omega
              case c5 => have := HW5.out.bel.size; simp; omega
              · intro v' w6 hown' hgrow _
                have HW6 := Lib.hid (HW5.out.push hown' hgrow)
                obtain ⟨A6, c6, hv⟩ : ∃ A c, v' = .slice A (ks' ++ [k]).length c := by
                  rcases hown'.2 with ⟨rfl, h0⟩ | ⟨g, cap, cur, rfl, _⟩
                  · omega
                  · exact ⟨_, _, by rw [List.length_append]; rfl⟩
                subst hv
                clear hown' hgrow HW5 hi0 hz0 hz1 hz2
                go_wp2_with fail
                go_roundw
                case rel => exact ⟨i + 1, ks' ++ [k], A6, c6, by omega, by simp, rfl, HJ2, HW6⟩
                case measure => simp [intOf]; omega
          · rw [show findI os x = -1 from findI_none (fun k hk e => hP ⟨k, hk, e.symm⟩)] at hfd
            have HFd := Lib.hid hfd
            clear hfd hP HJ'
            go_wp2_with fail
            have hx := fun (y : Grow wr) => y.cell
            refine wp_region_grow (by kernel_rfl) (by kernel_rfl) ?_
            repeat (go_big_quiet_step ((go_at_call 40; exact Grow.call _ (HFd.out _))))
            refine wpQuiet_nil ?_
            intro _ hw'
            obtain ⟨y, rfl⟩ := hw'
            have HFin := Lib.hid (HBr.out.trans ((HW.out.below y.below).bel.mono (by have := HS1.out; omega)))
            clear hx f1 hcell HFd HW HDw
            go_wp2_with fail
            go_ret2
            exact .inl ⟨_, rfl, HFin.out⟩
        · have HJe : Hid (OrdJ os ws (findL ws (PP os ks) nw) ks' []) := Lib.hid (by have h := HJ.out; rw [List.drop_of_length_le (by omega)] at h; exact h)
          have HDn := Lib.hid (HI.out.done HM.out HJe.out)
          by_cases hlt2 : m < ks'.length
          · have HMo := Lib.hid (OrdI.more HJe.out.nd HJe.out.lt HDn.out.1 hlt2)
            have hkm := HJe.out.lt _ (List.getElem_mem hlt2)
            have hld := fun (w' : World) (hb : Below wr.heap.size wr w') => rleads_any size last c ks'[m] w' (HDw.out.below (hb.mono hBw)) (Nat.le_trans hBw hb.size) hl HOk.out hkm
            obtain ⟨b, off, rfl, hb, hcell⟩ := (ownsRow_rd HW.out.row).at_ (k := m) (by rw [iv_len]; exact hlt2)
            rw [show (iv ks')[m]'(by rw [iv_len]; exact hlt2) = .int .i64 (ks'[m] : Int) by simp [iv]] at hcell
            have hll : (ptrs os[ks'[m]].leads).length ≤ 16777300 := by
              have h1 := pos_top os hkm
              have h2 := ptrs_len os[ks'[m]].leads
              have h3 : os[ks'[m]].leads.length ≤ 1 + os[ks'[m]].xs.length := by unfold Ob.leads; split <;> simp <;> omega
              omega
            obtain ⟨ls, hls⟩ : ∃ ls, os[ks'[m]].leads = ls := ⟨_, rfl⟩
            rw [hls] at HMo hld hll
            clear hls hkm
            obtain ⟨km, hkm⟩ : ∃ km, ks'[m] = km := ⟨_, rfl⟩
            rw [hkm] at hld hcell
            clear hkm
            go_wp2_with fail
            have hSx : ∀ w' : World, Below wr.heap.size wr w' → (w'.cell? ⟨w.heap.size, 0, none⟩ = some (.int .i64 size) ∧ w'.cell? ⟨w.heap.size, 1, none⟩ = some (.slice A os.length c) ∧ w'.cell? ⟨w.heap.size, 2, none⟩ = some (.int .u32 last) ∧ w'.cell? ⟨b, off + m, none⟩ = some (.int .i64 (km : Int))) := fun w' hbw =>
              ⟨(hbw.cell (p := ⟨w.heap.size, 0, none⟩) hSlt).trans f1.1, (hbw.cell (p := ⟨w.heap.size, 1, none⟩) hSlt).trans f1.2.1, (hbw.cell (p := ⟨w.heap.size, 2, none⟩) hSlt).trans f1.2.2.1, (hbw.cell (p := ⟨b, off + m, none⟩) hb).trans hcell⟩
            have HSx := Lib.hid hSx
            have HLd := Lib.hid hld
            clear hSx hld f1 hcell
            refine wp_region_noPanic ?_
            refine wp_region_held_drew (S := (fun w' : World => w'.cell? ⟨w.heap.size, 0, none⟩ = some (.int .i64 size) ∧ w'.cell? ⟨w.heap.size, 1, none⟩ = some (.slice A os.length c) ∧ w'.cell? ⟨w.heap.size, 2, none⟩ = some (.int .u32 last) ∧ w'.cell? ⟨b, off + m, none⟩ = some (.int .i64 (km : Int)))) (by kernel_rfl) (HSx.out _ ((Below.refl _ _).drew)) (fun hHeld => ?_)
            refine wpAnyH_take (i := 0) (v := ?_) (by first | (simp only [List.getElem?_toArray, List.getElem?_cons_succ, List.getElem?_cons_zero]; rfl) | rfl) (by kernel_rfl) (by kernel_rfl) (by kernel_rfl) (fun _ _ _ h => h) (Or.inl ⟨by rfl, ?_⟩) (by assumption) ?_
            rotate_left 1
            · (intro w' hSw; (try dsimp only at hSw); go_simp; (try with_reducible rfl))
            try simp only [Act.put, List.setIfInBounds_toArray, List.set_cons_zero, List.set_cons_succ]
            refine wpAnyH_take (i := 1) (v := ?_) (by first | (simp only [List.getElem?_toArray, List.getElem?_cons_succ, List.getElem?_cons_zero]; rfl) | rfl) (by kernel_rfl) (by kernel_rfl) (by kernel_rfl) (fun _ _ _ h => h) (Or.inl ⟨by rfl, ?_⟩) (by assumption) ?_
            rotate_left 1
            · (intro w' hSw; (try dsimp only at hSw); go_simp; (try with_reducible rfl))
            try simp only [Act.put, List.setIfInBounds_toArray, List.set_cons_zero, List.set_cons_succ]
            refine wpAnyH_take (i := 2) (v := ?_) (by first | (simp only [List.getElem?_toArray, List.getElem?_cons_succ, List.getElem?_cons_zero]; rfl) | rfl) (by kernel_rfl) (by kernel_rfl) (by kernel_rfl) (fun _ _ _ h => h) (Or.inl ⟨by rfl, ?_⟩) (by assumption) ?_
            rotate_left 1
            · (intro w' hSw; (try dsimp only at hSw); go_simp; (try with_reducible rfl))
            try simp only [Act.put, List.setIfInBounds_toArray, List.set_cons_zero, List.set_cons_succ]
            refine wpAnyH_take (i := 3) (v := ?_) (by first | (simp only [List.getElem?_toArray, List.getElem?_cons_succ, List.getElem?_cons_zero]; rfl) | rfl) (by kernel_rfl) (by kernel_rfl) (by kernel_rfl) (fun _ _ _ h => h) (Or.inl ⟨by rfl, ?_⟩) (by assumption) ?_
            rotate_left 1
            · (intro w' hSw; (try dsimp only at hSw); go_simp; (try with_reducible rfl))
            try simp only [Act.put, List.setIfInBounds_toArray, List.set_cons_zero, List.set_cons_succ]
            refine wpAnyH_take (i := 4) (v := ?_) (by first | (simp only [List.getElem?_toArray, List.getElem?_cons_succ, List.getElem?_cons_zero]; rfl) | rfl) (by kernel_rfl) (by kernel_rfl) (by kernel_rfl) (fun _ _ _ h => h) (Or.inl ⟨by rfl, ?_⟩) (by assumption) ?_
            rotate_left 1
            · (intro w' hSw; (try dsimp only at hSw); go_simp; (try with_reducible rfl))
            try simp only [Act.put, List.setIfInBounds_toArray, List.set_cons_zero, List.set_cons_succ]
            refine wpAnyH_ready (rs := [5]) (by kernel_rfl) (by simp) ?_
            refine AllReadyH.cons (by first | (simp only [List.getElem?_toArray, List.getElem?_cons_succ, List.getElem?_cons_zero]; rfl) | rfl) (fun K hK => ?_) AllReadyH.nil
            go_simp
            refine (HLd.out _ ((Below.refl _ _).drew)).mono ?_
            rintro e w7 ⟨A7, c7, rfl, ho7, hb7⟩
            have hbw7 : Below wr.heap.size wr w7 := (Below.refl wr.heap.size wr).drew.trans hb7
            try (go_wp2_with fail)
            refine hK.out _ _ (HSx.out _ hbw7) (fun hHeld => ?_)
            clear hK K
            try simp only [Act.put, List.setIfInBounds_toArray, List.set_cons_zero, List.set_cons_succ]
            refine wpAnyH_take (i := 6) (v := ?_) (by first | (simp only [List.getElem?_toArray, List.getElem?_cons_succ, List.getElem?_cons_zero]; rfl) | rfl) (by kernel_rfl) (by kernel_rfl) (by kernel_rfl) (fun _ _ _ h => h) (Or.inl ⟨by rfl, ?_⟩) (by assumption) ?_
            rotate_left 1
            · (intro w' hSw; (try dsimp only at hSw); go_simp; (try with_reducible rfl))
            try simp only [Act.put, List.setIfInBounds_toArray, List.set_cons_zero, List.set_cons_succ]
            refine wpAnyH_done (by kernel_rfl) ?_ _
            refine NoPanic.normal ?_
            have HW7 : Hid (OrdW wr0 w7 G os ks' ks' (.slice (some ⟨b, off, none⟩) ks'.length c3) (.slice A7 (ptrs ls).length c7) (ptrs ls)) := Lib.hid ⟨(HW.out.below hbw7).row, ownw_lower ho7 HW.out.bel.size, (HW.out.below hbw7).met, (HW.out.below hbw7).bel⟩
            have hmm : m + 1 ≤ os.length + 1 := by omega
            clear hbw7 ho7 hb7 hHeld HLd HSx HW HDw
            go_wp2_with fail
            go_roundw
            case rel => exact ⟨m + 1, ks', _, c3, A7, c7, ptrs ls, by simp, rfl, rfl, hll, hmm, HMo, HW7⟩
            case measure => simp [intOf]; omega
          · have HLa : Hid (OrdI os ws rs (ks'.length + 1) ks' []) := Lib.hid (OrdI.last HJe.out.nd HJe.out.lt (by have h := HDn.out; have e : m = ks'.length := (by have := HM.out; omega); rw [← e]; exact h.1))
            have em : m = ks'.length := by have := HM.out; have := HDn.out.2; omega
            have HW7 : Hid (OrdW wr0 wr G os ks' ks' (.slice A3 ks'.length c3) (.slice none 0 0) []) := Lib.hid ⟨HW.out.row, ownw_nil _ _, HW.out.met, HW.out.bel⟩
            subst em
            clear hlt2 HW
            go_wp2_with fail
            go_roundw
            case rel => exact ⟨ks'.length + 1, ks', A3, c3, none, 0, [], by simp, rfl, rfl, by simp, by omega, HLa, HW7⟩
            case measure => simp [intOf]; omega
    · have HFi : Hid (RunTo os ws rs ks.length (PP os ks)) := Lib.hid (by
        rcases HI.out.cont with ⟨h, _⟩ | ⟨_, _, h⟩
        · exact absurd h hm
        · exact h)
      have HR := Lib.hid (row_zero HW.out.row)
      have HFin := Lib.hid (HBr.out.trans (HW.out.bel.mono (by have := HS1.out; omega)))
      clear HW
      go_wp2_with fail
      go_ret2
      exact .inr ⟨ks, A1, c1, rfl, HR.out, HI.out.nd, HI.out.lt, HFi.out, HFin.out⟩
end Go.Proofs.YthppamfhkcdjdaaDoor.Fl
