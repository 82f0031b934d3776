/-
  The program's class: one more of them, or it gives up.
-/
import Derived.Test.YtmdkneollidkfaaGreatDoorCkR
import Derived.Laws.Runes
import Derived.WalkMore
import Derived.Lib.FieldsP
import Derived.Lib.DecodeN
namespace Go.Proofs.YtmdkneollidkfaaGreatDoor.Fl
open Go.RowKit

theorem step_append_yk {w : World} {base c : Nat} {A : Option Addr} {xs news : List (Cls × Value)} {v : Value} {ops : Array Oper} {o : Oper} {a : Act} {K : Act → World → Prop} {Q : Exit → Act → World → Prop} {E : Prop} (hg : o.guard = none) (s x : Operand) (ho : o.op = .call { callee := .builtin .append, args := #[s, x], argTypes := #[50, 50] })
    (hs : a.eval s = v) (hx : a.eval x = .slice A news.length c) (hown : OwnYk w base v xs) (hr : Rd w w.heap.size A (ck_ news)) (hA : A = none → news.length = 0) (hone : ∀ v ∈ ck_ news, v.oneCell' = true) (hl : xs.length ≤ 100000000) (hl2 : news.length ≤ 100000000) (hb : base ≤ w.heap.size)
    (h : ∀ A' ts c' w', Hid (ts = xs ++ news) → Hid (OwnYk w' base (.slice A' ts.length c') ts) → Hid (Below base w w' ∧ (∀ k, k < w.heap.size → some k ≠ v.ownBlock → w'.heap[k]? = w.heap[k]?) ∧ ((Value.slice A' ts.length c').ownBlock = v.ownBlock ∨ (Value.slice A' ts.length c').ownBlock = some w.heap.size)) → K (a.put o.dst (.slice A' ts.length c')) w') :
    if Region.wanted o (yielded ops a.tmps) = true then Oper.wp Tryz.prog o a w K Q else E := by
  obtain ⟨i0, hi, hz0, hz1, hz2⟩ := info_parts clsinfoK
  refine step_append_rd (base := base) (size := 4) (bytes := 64) (n := xs.length) (m := news.length) (c := c) (v := v) (xs := ck_ xs) (news := ck_ news) hg s x ho Tryz.underlying50 hi hz0 hz1 hz2 rfl (by decide) hs hx hown hr (ck__len _) hA hone (by unfold maxLen; omega) (by omega) hb ?_
  intro v' w' happ
  obtain ⟨A', c', rfl, _, _⟩ := happ.slice
  have e : xs.length + news.length = (xs ++ news).length := by simp
  have ho := happ.own
  have hat := happ.at_
  rw [e, show ck_ xs ++ ck_ news = ck_ (xs ++ news) from (ck__app _ _).symm] at ho
  rw [e] at hat ⊢
  exact h A' (xs ++ news) c' w' (Lib.hid rfl) (Lib.hid ho) (Lib.hid ⟨(Below.refl _ _).grown happ.grown hb (fun j hj => (World.ownsRow.lt hown j hj).1), happ.grown.block, hat⟩)

theorem KpN.app {w1 w2 : World} {base e size n : Nat} {v v' : Value} {xs : List Value} (ho : w1.ownsRow base e size v n xs) (hk : Below base w1 w2 ∧ (∀ k, k < w1.heap.size → some k ≠ v.ownBlock → w2.heap[k]? = w1.heap[k]?) ∧ (v'.ownBlock = v.ownBlock ∨ v'.ownBlock = some w1.heap.size)) (hT : ∀ cs fr, keepO (.cells cs e fr) = false := by intros; rfl) : KpN w1 w2 := by
  intro k o hko hcl
  refine (hk.2.1 k (lt_of_blk hko) (fun e => ?_)).trans hko
  rcases ho.2 with h0 | ⟨g, cap, cur, hv, _, hg, _⟩
  · rw [h0.1] at e; cases e
  · rw [hv] at e
    have e2 : k = g := by simpa [Value.ownBlock] using e
    subst e2
    rw [hg] at hko
    cases hko
    rw [hT] at hcl
    cases hcl
def ClassPost (w0 : World) (R : Nat) (s : ByteArray) (p : Nat) (fs : List (Cls × Value)) (ss : List Src) (A1 : Option Addr) (c1 : Nat) (A2 : Option Addr) (c2 : Nat) (y : Cls × Value) (w : World) (e : Ending) (w' : World) : Prop :=
  (isClassR y.1.1 y.1.2.1 y.1.2.2.1 = false ∧ e = .panicked (faultK 3 y.1.2.2.2) ∧ Below w.heap.size w w') ∨
  (isClassR y.1.1 y.1.2.1 y.1.2.2.1 = true ∧ e = .returned (.tuple #[]) ∧ ∃ A3 c3 ts, ts = fs ++ [y] ∧ RkW w0 w' R s p ts ss A3 c3 A2 c2 ∧ KpN w w' ∧ (∀ k : Nat, k < w.heap.size → k ≠ R → some k ≠ (Value.slice A1 fs.length c1).ownBlock → w'.heap[k]? = w.heap[k]?))
set_option maxRecDepth 100000 in
set_option maxHeartbeats 8000000 in
theorem classK_any (w0 w : World) (R : Nat) (s : ByteArray) (p : Nat) (fs : List (Cls × Value)) (ss : List Src) (A1 : Option Addr) (c1 : Nat) (A2 : Option Addr) (c2 : Nat) (nm sp : List UInt8) (fl : List (List UInt8)) (A : Option Addr) (k : Nat) (at_ : Int)
    (h : RkW w0 w R s p fs ss A1 c1 A2 c2) (ho : OwnS w w0.heap.size (.slice A fl.length k) fl) (h1 : nm.length ≤ 16777216) (h2 : sp.length ≤ 16777216) (h3 : ∀ x ∈ fl, x.length ≤ 16777216) (h4 : fl.length ≤ 100000000) (h5 : fs.length ≤ 100000000) :
    Calls Tryz.prog 89 #[.pointer (some ⟨R, 0, none⟩), .agg #[.string (mkB nm), .string (mkB sp), .slice A fl.length k, .int .i64 at_]] w (ClassPost w0 R s p fs ss A1 c1 A2 c2 ((nm, supN sp, fl, at_), .slice A fl.length k) w) := by
  have HW := Lib.hid h
  have HO := Lib.hid ho
  have H12 := Lib.hid (And.intro h1 (And.intro h2 h3))
  obtain ⟨hrd, _, _, hk⟩ := ownS_rd ho
  have HRd := Lib.hid hrd
  clear h ho h1 h2 h3 hrd
  have hw0 := heap_alloc_new w (.cells #[.string (mkB nm), .string (mkB sp), .slice A fl.length k, .int .i64 at_] 87)
  have hb0 : Below w.heap.size w (w.alloc (.cells #[.string (mkB nm), .string (mkB sp), .slice A fl.length k, .int .i64 at_] 87)) := (Below.refl _ _).alloc (Nat.le_refl _) _
  go_enter Tryz.func89, Tryz.ntmps89
  go_upto_region 1 with fail
  have HB1 := Lib.hid hb0
  generalize w.alloc (.cells #[.string (mkB nm), .string (mkB sp), .slice A fl.length k, .int .i64 at_] 87) = w1 at *
  obtain ⟨T, hT⟩ : ∃ T, w.heap.size = T := ⟨_, rfl⟩
  have HT := Lib.hid (Nat.le_of_eq hT)
  rw [hT] at hw0
  simp only [hT]
  clear hT
  have HW1 := Lib.hid hw0
  clear hw0 hb0
  have f := cells4L HW1.out
  have l := lt_of_blk HW1.out
  go_upto_if 6 with fail
  go_cut [] from 6 (fun wx => ∃ sp2, Hid (sp2 = supN sp) ∧ Hid (wx.heap[T]? = some (.cells #[.string (mkB nm), .string (mkB sp2), .slice A fl.length k, .int .i64 at_] 87 (0, 0))) ∧ Hid (Below w.heap.size w wx))
  case first =>
    go_wp2_with fail
    · go_meet
      have hq : (sp == [110, 105, 108]) = true := by assumption
      have hq2 : sp = nilL := beq_iff_eq.1 hq
      exact ⟨[], Lib.hid (by rw [hq2]; rfl), Lib.hid (heap_setCell_same _ T 1 _ _ _ HW1.out), Lib.hid (HB1.out.setCell (p := ⟨T, 1, none⟩) HT.out _)⟩
    · go_meet
      have hq : (sp == [110, 105, 108]) = false := by assumption
      have hq2 : ¬ sp = nilL := beq_eq_false_iff_ne.1 hq
      exact ⟨sp, Lib.hid (by rw [supN, if_neg hq2]), HW1, HB1⟩
  case rest =>
  obtain ⟨sp2, HS, HW2, HB2⟩ := hcut
  clear f l HW1 HB1
  have hsp2 : sp2.length ≤ 16777216 := by rw [HS.out, supN]; split; simp; exact H12.out.2.1
  have hcl := isClassK_any nm sp2 fl at_ A k w.heap.size wc (HRd.out.below HB2.out (Nat.le_refl _)) HB2.out.size hk h4 H12.out.2.2 H12.out.1 hsp2
  obtain ⟨t, ht⟩ : ∃ t, isClassR nm sp2 fl = t := ⟨_, rfl⟩
  rw [ht] at hcl
  have HC := Lib.hid (show isClassR nm (supN sp) fl = t by rw [← HS.out]; exact ht)
  clear ht hsp2
  have f := cells4L HW2.out
  have l := lt_of_blk HW2.out
  go_wp2_with fail
  refine hcl.mono ?_
  rintro e w3 ⟨rfl, hb3⟩
  have HB3 := Lib.hid (HB2.out.trans (hb3.mono HB2.out.size))
  have HW3 := Lib.hid ((hb3.block _ l).trans HW2.out)
  clear f l hcl hb3 HW2 HB2
  have f := cells4L HW3.out
  have l := lt_of_blk HW3.out
  cases t
  · have hg := fun w' => giveUpK_any (.pointer (some ⟨R, 0, none⟩)) 3 at_ w'
    go_wp2_with (first | (go_at_call 84; refine (hg _).mono ?_; rintro e w4 ⟨rfl, rfl⟩))
    exact ⟨rfl, .inl ⟨HC.out, rfl, HB3.out⟩⟩
  have HWr := Lib.hid (HW.out.below HB3.out)
  have hn : R ≠ T := fun e => by have := lt_of_blk HW.out.rd; have := HT.out; omega
  have HRT := Lib.hid hn
  clear hn
  go_upto_region 5 with fail
  have fr := cells4L HWr.out.rd
  have lr := lt_of_blk HWr.out.rd
  have hS : (fun w' : World => w'.cell? ⟨T, 0, none⟩ = some (.string (mkB nm)) ∧ w'.cell? ⟨T, 1, none⟩ = some (.string (mkB sp2)) ∧ w'.cell? ⟨T, 2, none⟩ = some (.slice A fl.length k) ∧ w'.cell? ⟨T, 3, none⟩ = some (.int .i64 at_)) w3.drew := ⟨f.1, f.2.1, f.2.2.1, f.2.2.2.1⟩
  have HSS := Lib.hid hS
  clear hS
  refine wp_region_noPanic ?_
  refine wp_region_held_drew (S := (fun w' : World => w'.cell? ⟨T, 0, none⟩ = some (.string (mkB nm)) ∧ w'.cell? ⟨T, 1, none⟩ = some (.string (mkB sp2)) ∧ w'.cell? ⟨T, 2, none⟩ = some (.slice A fl.length k) ∧ w'.cell? ⟨T, 3, none⟩ = some (.int .i64 at_))) (by kernel_rfl) HSS.out (fun hHeld => ?_)
  refine wpAnyH_take (i := 0) (v := ?_) (by first | (simp only [List.getElem?_toArray, List.getElem?_cons_succ, List.getElem?_cons_zero]; rfl) | rfl) (by kernel_rfl) (by kernel_rfl) (by kernel_rfl) (fun _ _ _ h => h) (Or.inl ⟨by rfl, ?_⟩) (by assumption) ?_
  rotate_left 1
  · (intro w' hSw; (try dsimp only at hSw); go_simp; (try with_reducible rfl))
  try simp only [Act.put, List.setIfInBounds_toArray, List.set_cons_zero, List.set_cons_succ]
  refine wpAnyH_take (i := 1) (v := ?_) (by first | (simp only [List.getElem?_toArray, List.getElem?_cons_succ, List.getElem?_cons_zero]; rfl) | rfl) (by kernel_rfl) (by kernel_rfl) (by kernel_rfl) (fun _ _ _ h => h) (Or.inl ⟨by rfl, ?_⟩) (by assumption) ?_
  rotate_left 1
  · (intro w' hSw; (try dsimp only at hSw); go_simp; (try with_reducible rfl))
  try simp only [Act.put, List.setIfInBounds_toArray, List.set_cons_zero, List.set_cons_succ]
  refine wpAnyH_take (i := 2) (v := ?_) (by first | (simp only [List.getElem?_toArray, List.getElem?_cons_succ, List.getElem?_cons_zero]; rfl) | rfl) (by kernel_rfl) (by kernel_rfl) (by kernel_rfl) (fun _ _ _ h => h) (Or.inl ⟨by rfl, ?_⟩) (by assumption) ?_
  rotate_left 1
  · (intro w' hSw; (try dsimp only at hSw); go_simp; (try with_reducible rfl))
  try simp only [Act.put, List.setIfInBounds_toArray, List.set_cons_zero, List.set_cons_succ]
  refine wpAnyH_take (i := 3) (v := ?_) (by first | (simp only [List.getElem?_toArray, List.getElem?_cons_succ, List.getElem?_cons_zero]; rfl) | rfl) (by kernel_rfl) (by kernel_rfl) (by kernel_rfl) (fun _ _ _ h => h) (Or.inl ⟨by rfl, ?_⟩) (by assumption) ?_
  rotate_left 1
  · (intro w' hSw; (try dsimp only at hSw); go_simp; (try with_reducible rfl))
  try simp only [Act.put, List.setIfInBounds_toArray, List.set_cons_zero, List.set_cons_succ]
  refine wpAnyH_take (i := 4) (v := ?_) (by first | (simp only [List.getElem?_toArray, List.getElem?_cons_succ, List.getElem?_cons_zero]; rfl) | rfl) (by kernel_rfl) (by kernel_rfl) (by kernel_rfl) (fun _ _ _ h => h) (Or.inl ⟨by rfl, ?_⟩) (by assumption) ?_
  rotate_left 1
  · (intro w' hSw; (try dsimp only at hSw); go_simp; (try with_reducible rfl))
  try simp only [Act.put, List.setIfInBounds_toArray, List.set_cons_zero, List.set_cons_succ]
  refine wpAnyH_take (i := 6) (v := ?_) (by first | (simp only [List.getElem?_toArray, List.getElem?_cons_succ, List.getElem?_cons_zero]; rfl) | rfl) (by kernel_rfl) (by kernel_rfl) (by kernel_rfl) (fun _ _ _ h => h) (Or.inl ⟨by rfl, ?_⟩) (by assumption) ?_
  rotate_left 1
  · (intro w' hSw; (try dsimp only at hSw); go_simp; (try with_reducible rfl))
  try simp only [Act.put, List.setIfInBounds_toArray, List.set_cons_zero, List.set_cons_succ]
  have h5' := h5
  have HBA := Lib.hid (show Below w3.heap.size w3 (w3.alloc (.cells #[.string (mkB nm), .string (mkB sp2), .slice A fl.length k, .int .i64 at_] 87)).drew from ((Below.refl _ _).alloc (Nat.le_refl _) _).drew)
  have HR1 := Lib.hid (ck__one (w := (w3.alloc (.cells #[.string (mkB nm), .string (mkB sp2), .slice A fl.length k, .int .i64 at_] 87)).drew) ((nm, sp2, fl, at_), .slice A fl.length k) (heap_alloc_new w3 (.cells #[.string (mkB nm), .string (mkB sp2), .slice A fl.length k, .int .i64 at_] 87)))
  have HY := Lib.hid (show ∃ A' c', (Value.slice A fl.length k) = .slice A' fl.length c' ∧ OwnS (w3.alloc (.cells #[.string (mkB nm), .string (mkB sp2), .slice A fl.length k, .int .i64 at_] 87)).drew w0.heap.size (.slice A fl.length k) fl from ⟨A, k, rfl, HO.out.below (HB3.out.trans (HBA.out.mono HB3.out.size))⟩)
  have HNT := Lib.hid (show some T ≠ (Value.slice A1 fs.length c1).ownBlock from fun e => by have := (World.ownsRow.lt HW.out.ownC T e.symm).2; have := HT.out; omega)
  have HB0 := Lib.hid (show w0.heap.size ≤ (w3.alloc (.cells #[.string (mkB nm), .string (mkB sp2), .slice A fl.length k, .int .i64 at_] 87)).drew.heap.size from Nat.le_trans (Nat.le_trans HW.out.bel.size HB3.out.size) HBA.out.size)
  refine wpAnyH_ready (rs := [5, 7]) (by kernel_rfl) (by simp) ?_
  refine AllReadyH.cons (by first | (simp only [List.getElem?_toArray, List.getElem?_cons_succ, List.getElem?_cons_zero]; rfl) | rfl) (fun K hK => ?_) (AllReadyH.cons (by first | (simp only [List.getElem?_toArray, List.getElem?_cons_succ, List.getElem?_cons_zero]; rfl) | rfl) (fun K hK => ?_) AllReadyH.nil)
  ·
    go_simp
    refine hK.out _ _ HSS.out (fun hHeld => ?_)
    clear hK K
    try simp only [Act.put, List.setIfInBounds_toArray, List.set_cons_zero, List.set_cons_succ]
    refine wpAnyH_ready (rs := [7]) (by kernel_rfl) (by simp) ?_
    refine AllReadyH.cons (by first | (simp only [List.getElem?_toArray, List.getElem?_cons_succ, List.getElem?_cons_zero]; rfl) | rfl) (fun K hK => ?_) AllReadyH.nil
    go_simp
    show K _ (w3.alloc (.cells #[.string (mkB nm), .string (mkB sp2), .slice A fl.length k, .int .i64 at_] 87)).drew
    refine hK.out _ _ ⟨(HBA.out.cell (p := ⟨T, 0, none⟩) l).trans f.1, (HBA.out.cell (p := ⟨T, 1, none⟩) l).trans f.2.1, (HBA.out.cell (p := ⟨T, 2, none⟩) l).trans f.2.2.1, (HBA.out.cell (p := ⟨T, 3, none⟩) l).trans f.2.2.2.1⟩ (fun hHeld => ?_)
    clear hK K
    try simp only [Act.put, List.setIfInBounds_toArray, List.set_cons_zero, List.set_cons_succ]
    refine wpAnyH_ready (rs := [8]) (by kernel_rfl) (by simp) ?_
    refine AllReadyH.cons (by first | (simp only [List.getElem?_toArray, List.getElem?_cons_succ, List.getElem?_cons_zero]; rfl) | rfl) (fun K hK => ?_) AllReadyH.nil
    refine step_append_yk (base := w0.heap.size) (v := .slice A1 fs.length c1) (xs := fs) (news := [((nm, sp2, fl, at_), .slice A fl.length k)]) rfl _ _ rfl rfl rfl (HWr.out.below HBA.out).ownC HR1.out (fun h => by cases h) (by simp [ck_, Value.oneCell']) h5 (by simp) HB0.out ?_
    intro A4 t4 c4 w4 HT4 HO4 HB4
    have HT := HB4.out.2.1 T (Nat.lt_of_lt_of_le l HBA.out.size) HNT.out
    refine hK.out _ _ ⟨(World.cell?_of_block (a := ⟨T, 0, none⟩) HT).trans ((HBA.out.cell (p := ⟨T, 0, none⟩) l).trans f.1), (World.cell?_of_block (a := ⟨T, 1, none⟩) HT).trans ((HBA.out.cell (p := ⟨T, 1, none⟩) l).trans f.2.1), (World.cell?_of_block (a := ⟨T, 2, none⟩) HT).trans ((HBA.out.cell (p := ⟨T, 2, none⟩) l).trans f.2.2.1), (World.cell?_of_block (a := ⟨T, 3, none⟩) HT).trans ((HBA.out.cell (p := ⟨T, 3, none⟩) l).trans f.2.2.2.1)⟩ (fun hHeld => ?_)
    clear hK K
    try simp only [Act.put, List.setIfInBounds_toArray, List.set_cons_zero, List.set_cons_succ]
    refine wpAnyH_take (i := 9) (v := ?_) (by first | (simp only [List.getElem?_toArray, List.getElem?_cons_succ, List.getElem?_cons_zero]; rfl) | rfl) (by kernel_rfl) (by kernel_rfl) (by kernel_rfl) (fun _ _ _ h => h) (Or.inl ⟨by rfl, ?_⟩) (by assumption) ?_
    rotate_left 1
    · (intro w' hSw; (try dsimp only at hSw); go_simp; (try with_reducible rfl))
    try simp only [Act.put, List.setIfInBounds_toArray, List.set_cons_zero, List.set_cons_succ]
    refine wpAnyH_take (i := 10) (v := ?_) (by first | (simp only [List.getElem?_toArray, List.getElem?_cons_succ, List.getElem?_cons_zero]; rfl) | rfl) (by kernel_rfl) (by kernel_rfl) (by kernel_rfl) (fun _ _ _ h => h) (Or.inl ⟨by rfl, ?_⟩) (by assumption) ?_
    rotate_left 1
    · (intro w' hSw; (try dsimp only at hSw); go_simp; (try with_reducible rfl))
    try simp only [Act.put, List.setIfInBounds_toArray, List.set_cons_zero, List.set_cons_succ]
    refine wpAnyH_take (i := 11) (v := ?_) (by first | (simp only [List.getElem?_toArray, List.getElem?_cons_succ, List.getElem?_cons_zero]; rfl) | rfl) (by kernel_rfl) (by kernel_rfl) (by kernel_rfl) (fun _ _ _ h => h) (Or.inl ⟨by rfl, ?_⟩) (by assumption) ?_
    rotate_left 1
    · (intro w' hSw; (try dsimp only at hSw); go_simp; (try with_reducible rfl))
    try simp only [Act.put, List.setIfInBounds_toArray, List.set_cons_zero, List.set_cons_succ]
    have hadd := HWr.out.addY (w1 := (w3.alloc (.cells #[.string (mkB nm), .string (mkB sp2), .slice A fl.length k, .int .i64 at_] 87)).drew) HBA.out (y := ((nm, sp2, fl, at_), .slice A fl.length k)) HY.out HT4.out HO4.out HB4.out
    have fr4 := (HB4.out.2.1 R (Nat.lt_of_lt_of_le lr HBA.out.size) (own_ne (HWr.out.below HBA.out).ownC (HWr.out.below HBA.out).rd (by decide)).symm).trans (HWr.out.below HBA.out).rd
    have HKp := Lib.hid (show KpN w3 (w4.setCell ⟨R, 0, none⟩ (.slice A4 t4.length c4)) from (KpN.below HBA.out).trans ((KpN.app (HWr.out.below HBA.out).ownC HB4.out).trans (KpN.set fr4 _)))
    have f4 := cells4L fr4
    refine wpAnyH_ready (rs := [12]) (by kernel_rfl) (by simp) ?_
    refine AllReadyH.cons (by first | (simp only [List.getElem?_toArray, List.getElem?_cons_succ, List.getElem?_cons_zero]; rfl) | rfl) (fun K hK => ?_) AllReadyH.nil
    go_simp
    have hRT2 : T ≠ R := fun e => HRT.out e.symm
    have HF := fun (j : Nat) => World.cell?_setCell_far w4 ⟨R, 0, none⟩ ⟨T, j, none⟩ (.slice A4 t4.length c4) HRT.out
    refine hK.out _ _ ⟨(HF 0).trans hHeld.1, (HF 1).trans hHeld.2.1, (HF 2).trans hHeld.2.2.1, (HF 3).trans hHeld.2.2.2⟩ (fun _ => ?_)
    refine wpAnyH_done (by kernel_rfl) ?_ _
    refine bodyPost_end (results_none rfl _ _ _) rfl ?_
    exact .inr ⟨HC.out, rfl, A4, c4, t4, by rw [← HS.out]; exact HT4.out, hadd, (KpN.below HB3.out).trans HKp.out, fun j hj h1 h2 => (Below.heap_setCell w4 ⟨R, 0, none⟩ _ j h1).trans ((HB4.out.2.1 j (Nat.lt_of_lt_of_le hj (Nat.le_trans HB3.out.size HBA.out.size)) h2).trans ((HBA.out.block j (Nat.lt_of_lt_of_le hj HB3.out.size)).trans (HB3.out.block j hj)))⟩
  ·
    go_simp
    show K _ (w3.alloc (.cells #[.string (mkB nm), .string (mkB sp2), .slice A fl.length k, .int .i64 at_] 87)).drew
    refine hK.out _ _ ⟨(HBA.out.cell (p := ⟨T, 0, none⟩) l).trans f.1, (HBA.out.cell (p := ⟨T, 1, none⟩) l).trans f.2.1, (HBA.out.cell (p := ⟨T, 2, none⟩) l).trans f.2.2.1, (HBA.out.cell (p := ⟨T, 3, none⟩) l).trans f.2.2.2.1⟩ (fun hHeld => ?_)
    clear hK K
    try simp only [Act.put, List.setIfInBounds_toArray, List.set_cons_zero, List.set_cons_succ]
    refine wpAnyH_ready (rs := [5]) (by kernel_rfl) (by simp) ?_
    refine AllReadyH.cons (by first | (simp only [List.getElem?_toArray, List.getElem?_cons_succ, List.getElem?_cons_zero]; rfl) | rfl) (fun K hK => ?_) AllReadyH.nil
    go_simp
    refine hK.out _ _ ⟨(HBA.out.cell (p := ⟨T, 0, none⟩) l).trans f.1, (HBA.out.cell (p := ⟨T, 1, none⟩) l).trans f.2.1, (HBA.out.cell (p := ⟨T, 2, none⟩) l).trans f.2.2.1, (HBA.out.cell (p := ⟨T, 3, none⟩) l).trans f.2.2.2.1⟩ (fun hHeld => ?_)
    clear hK K
    try simp only [Act.put, List.setIfInBounds_toArray, List.set_cons_zero, List.set_cons_succ]
    refine wpAnyH_ready (rs := [8]) (by kernel_rfl) (by simp) ?_
    refine AllReadyH.cons (by first | (simp only [List.getElem?_toArray, List.getElem?_cons_succ, List.getElem?_cons_zero]; rfl) | rfl) (fun K hK => ?_) AllReadyH.nil
    refine step_append_yk (base := w0.heap.size) (v := .slice A1 fs.length c1) (xs := fs) (news := [((nm, sp2, fl, at_), .slice A fl.length k)]) rfl _ _ rfl rfl rfl (HWr.out.below HBA.out).ownC HR1.out (fun h => by cases h) (by simp [ck_, Value.oneCell']) h5 (by simp) HB0.out ?_
    intro A4 t4 c4 w4 HT4 HO4 HB4
    have HT := HB4.out.2.1 T (Nat.lt_of_lt_of_le l HBA.out.size) HNT.out
    refine hK.out _ _ ⟨(World.cell?_of_block (a := ⟨T, 0, none⟩) HT).trans ((HBA.out.cell (p := ⟨T, 0, none⟩) l).trans f.1), (World.cell?_of_block (a := ⟨T, 1, none⟩) HT).trans ((HBA.out.cell (p := ⟨T, 1, none⟩) l).trans f.2.1), (World.cell?_of_block (a := ⟨T, 2, none⟩) HT).trans ((HBA.out.cell (p := ⟨T, 2, none⟩) l).trans f.2.2.1), (World.cell?_of_block (a := ⟨T, 3, none⟩) HT).trans ((HBA.out.cell (p := ⟨T, 3, none⟩) l).trans f.2.2.2.1)⟩ (fun hHeld => ?_)
    clear hK K
    try simp only [Act.put, List.setIfInBounds_toArray, List.set_cons_zero, List.set_cons_succ]
    refine wpAnyH_take (i := 9) (v := ?_) (by first | (simp only [List.getElem?_toArray, List.getElem?_cons_succ, List.getElem?_cons_zero]; rfl) | rfl) (by kernel_rfl) (by kernel_rfl) (by kernel_rfl) (fun _ _ _ h => h) (Or.inl ⟨by rfl, ?_⟩) (by assumption) ?_
    rotate_left 1
    · (intro w' hSw; (try dsimp only at hSw); go_simp; (try with_reducible rfl))
    try simp only [Act.put, List.setIfInBounds_toArray, List.set_cons_zero, List.set_cons_succ]
    refine wpAnyH_take (i := 10) (v := ?_) (by first | (simp only [List.getElem?_toArray, List.getElem?_cons_succ, List.getElem?_cons_zero]; rfl) | rfl) (by kernel_rfl) (by kernel_rfl) (by kernel_rfl) (fun _ _ _ h => h) (Or.inl ⟨by rfl, ?_⟩) (by assumption) ?_
    rotate_left 1
    · (intro w' hSw; (try dsimp only at hSw); go_simp; (try with_reducible rfl))
    try simp only [Act.put, List.setIfInBounds_toArray, List.set_cons_zero, List.set_cons_succ]
    refine wpAnyH_take (i := 11) (v := ?_) (by first | (simp only [List.getElem?_toArray, List.getElem?_cons_succ, List.getElem?_cons_zero]; rfl) | rfl) (by kernel_rfl) (by kernel_rfl) (by kernel_rfl) (fun _ _ _ h => h) (Or.inl ⟨by rfl, ?_⟩) (by assumption) ?_
    rotate_left 1
    · (intro w' hSw; (try dsimp only at hSw); go_simp; (try with_reducible rfl))
    try simp only [Act.put, List.setIfInBounds_toArray, List.set_cons_zero, List.set_cons_succ]
    have hadd := HWr.out.addY (w1 := (w3.alloc (.cells #[.string (mkB nm), .string (mkB sp2), .slice A fl.length k, .int .i64 at_] 87)).drew) HBA.out (y := ((nm, sp2, fl, at_), .slice A fl.length k)) HY.out HT4.out HO4.out HB4.out
    have fr4 := (HB4.out.2.1 R (Nat.lt_of_lt_of_le lr HBA.out.size) (own_ne (HWr.out.below HBA.out).ownC (HWr.out.below HBA.out).rd (by decide)).symm).trans (HWr.out.below HBA.out).rd
    have HKp := Lib.hid (show KpN w3 (w4.setCell ⟨R, 0, none⟩ (.slice A4 t4.length c4)) from (KpN.below HBA.out).trans ((KpN.app (HWr.out.below HBA.out).ownC HB4.out).trans (KpN.set fr4 _)))
    have f4 := cells4L fr4
    refine wpAnyH_ready (rs := [12]) (by kernel_rfl) (by simp) ?_
    refine AllReadyH.cons (by first | (simp only [List.getElem?_toArray, List.getElem?_cons_succ, List.getElem?_cons_zero]; rfl) | rfl) (fun K hK => ?_) AllReadyH.nil
    go_simp
    have hRT2 : T ≠ R := fun e => HRT.out e.symm
    have HF := fun (j : Nat) => World.cell?_setCell_far w4 ⟨R, 0, none⟩ ⟨T, j, none⟩ (.slice A4 t4.length c4) HRT.out
    refine hK.out _ _ ⟨(HF 0).trans hHeld.1, (HF 1).trans hHeld.2.1, (HF 2).trans hHeld.2.2.1, (HF 3).trans hHeld.2.2.2⟩ (fun _ => ?_)
    refine wpAnyH_done (by kernel_rfl) ?_ _
    refine bodyPost_end (results_none rfl _ _ _) rfl ?_
    exact .inr ⟨HC.out, rfl, A4, c4, t4, by rw [← HS.out]; exact HT4.out, hadd, (KpN.below HB3.out).trans HKp.out, fun j hj h1 h2 => (Below.heap_setCell w4 ⟨R, 0, none⟩ _ j h1).trans ((HB4.out.2.1 j (Nat.lt_of_lt_of_le hj (Nat.le_trans HB3.out.size HBA.out.size)) h2).trans ((HBA.out.block j (Nat.lt_of_lt_of_le hj HB3.out.size)).trans (HB3.out.block j hj)))⟩
end Go.Proofs.YtmdkneollidkfaaGreatDoor.Fl

/-
  A rune beyond ASCII is none of the blanks.
-/
namespace Go.Proofs.YtmdkneollidkfaaGreatDoor.Fl
open Go.RowKit Go.Shelf

theorem blk_at (k : Nat) (h : k < 4) : ((blkB[k]'h).toNat < 128) ∧ (((blkB[k]'h).toNat : Int) == 65533) = false := by
  have h3 : ∀ b ∈ blkL, b.toNat < 128 := by decide
  have h2 : (blkB[k]'h).toNat < 128 := h3 (blkL[k]'h) (List.getElem_mem h)
  exact ⟨h2, by rw [beq_eq_false_iff_ne]; omega⟩
set_option maxRecDepth 100000 in
set_option maxHeartbeats 4000000 in
theorem indexRune_err (w : World) : Calls Tryz.prog 142 #[.string blkB, .int .i32 65533] w fun e w' => e = .returned (.int .i64 (-1)) ∧ Below w.heap.size w w' := by
  go_enter Tryz.func142, Tryz.ntmps142
  have hw0 : (w.iter blkB 0).heap[w.heap.size]? = some (.stringIter blkB 0) := heap_alloc_new w _
  have hb0 : Below w.heap.size w (w.iter blkB 0) := (Below.refl _ _).alloc (Nat.le_refl _) _
  go_wp2_with fail
  have HW0 := Lib.hid hw0
  have HB0 := Lib.hid hb0
  clear hw0 hb0
  generalize w.iter blkB 0 = w1 at *
  obtain ⟨K, hK⟩ : ∃ K, w.heap.size = K := ⟨_, rfl⟩
  simp only [hK] at HW0 ⊢
  have HK := Lib.hid (Nat.le_of_eq hK)
  clear hK
  go_loopw [] (fun wr => ∃ q : Nat, q ≤ 4 ∧ Hid (wr.heap[K]? = some (.stringIter blkB q)) ∧ Hid (Below w.heap.size w wr)) (fun wr => match wr.heap[K]? with | some (.stringIter _ q) => 4 - q | _ => 0)
  case atStart => exact ⟨0, by omega, HW0, HB0⟩
  case round =>
    clear HW0 HB0
    obtain ⟨q, hq, HW, HB⟩ := hrel
    by_cases h4 : q < 4
    · obtain ⟨c1, c2⟩ := blk_at q h4
      have hn := fun ty => Lib.run_next_ascii_at (P := Tryz.prog) wr K blkB q ty HW.out h4 c1
      have HW2 := Lib.hid (Lib.iterAt_heap wr K blkB q (q + 1) HW.out)
      have HB2 := Lib.hid (Lib.below_iterAt HB.out HK.out blkB (q + 1))
      generalize (blkB[q]'h4).toNat = c at *
      generalize wr.iterAt K blkB (q + 1) = w2 at *
      go_wp2_with fail
      go_roundw
      case rel => exact ⟨q + 1, by omega, HW2, HB2⟩
      case measure => rw [HW.out, HW2.out]; simp; omega
    · have hn := fun ty => Lib.run_next_end_at (P := Tryz.prog) wr K blkB q ty HW.out h4
      go_wp2_with fail
      go_ret
      exact ⟨rfl, HB.out⟩
theorem index_hi (c : UInt8) (hc : 128 ≤ c.toNat) : ∀ l : List UInt8, (∀ b ∈ l, b.toNat < 128) → Lib.indexByte l c = -1
  | [], _ => rfl
  | b :: l, h => by
    have hb : b ≠ c := fun e => by have := h b (List.mem_cons_self ..); rw [e] at this; omega
    rw [index_cons, if_neg hb, index_hi c hc l (fun x hx => h x (List.mem_cons_of_mem _ hx))]; rfl
set_option maxRecDepth 100000 in
set_option maxHeartbeats 4000000 in
theorem indexRune_hi (r : Nat) (w : World) (h0 : 128 ≤ r) (h1 : r ≤ 1114111) : Calls Tryz.prog 142 #[.string blkB, .int .i32 (r : Int)] w fun e w' => e = .returned (.int .i64 (-1)) ∧ Below w.heap.size w w' := by
  by_cases he : r = 65533
  · subst he; exact indexRune_err w
  have hv : Calls Tryz.prog 172 #[.int .i32 (r : Int)] w fun e w' => e = .returned (.bool (Lib.validRune r)) ∧ w' = w := Any.utf8_ValidRune Tryz.lays119 r w
  have e1 : decide ((0 : Int) ≤ (r : Int)) = true := by rw [decide_eq_true_eq]; omega
  have e2 : decide ((r : Int) < 128) = false := by rw [decide_eq_false_iff_not]; omega
  have e3 : ((r : Int) == 65533) = false := by rw [beq_eq_false_iff_ne]; omega
  cases hV : Lib.validRune (r : Int)
  · rw [hV] at hv
    go_enter Tryz.func142, Tryz.ntmps142
    go_wp2_with (first | (go_at_call 172; refine hv.mono ?_; rintro e w' ⟨rfl, hw⟩; rw [hw]))
    go_ret
    exact ⟨rfl, Below.refl _ _⟩
  · rw [hV] at hv
    have hen := encode_facts (r : Int) (by rw [validRune_eq]; exact hV) (by omega)
    have hcv := fun w' => run_convert_int_string (P := Tryz.prog) w' 21 9 .i32 (r : Int) (by rw [Tryz.underlying21]; rfl) Tryz.underlying9
    generalize Utf8.encode (r : Int) = E at *
    obtain ⟨g2, g4, g1⟩ := hen
    obtain ⟨L, hL⟩ : ∃ L, E.size = L + 1 := ⟨E.size - 1, by omega⟩
    have hLE : L < E.size := by omega
    have g5 : 128 ≤ (E[L]'hLE).toNat := by
      have := g1 (by omega)
      simpa [hL] using this
    clear g1
    have hL4 : L < blkB.size := by show L < 4; omega
    have hbl := (blk_at L (by omega)).1
    have hne : (((blkB[L]'hL4).toNat : Int) != ((E[L]'hLE).toNat : Int)) = true := by rw [bne_iff_ne]; omega
    have hix := fun w' => Tryz.strings_IndexByte (blkB.extract (L + 1) blkB.size) ((E[L]'hLE).toNat : Int) w'
    rw [show (((E[L]'hLE).toNat : Int)).toNat.toUInt8 = E[L]'hLE from by rw [Int.toNat_natCast]; exact UInt8.ofNat_toNat, index_hi _ g5 _ (fun b hb => by
      rw [show (blkB.extract (L + 1) blkB.size).data.toList = (sb blkB).drop (L + 1) from sb_tail blkB (L + 1)] at hb
      have h3 : ∀ b ∈ blkL, b.toNat < 128 := by decide
      exact h3 b (List.mem_of_mem_drop hb))] at hix
    have hLs : (E.size : Int) - 1 = (L : Int) := by omega
    have hL4' : (L : Int) < 4 := by omega
    have hz : blkB.size = 4 := rfl
    have hlt : L + 1 ≤ blkB.size := hL4
    have hw1 : IntKind.i64.wrap ((L : Int) + 1) = (L : Int) + 1 := by rw [IntKind.wrap_i64]; omega
    have hL0 : (0 : Int) ≤ (L : Int) + 1 ∧ (L : Int) + 1 ≤ 4 := by omega
    have hLn : L + 1 ≤ 4 := hL4
    rw [hz] at hix
    have HL := Lib.hid (And.intro hL g2)
    clear hbl hL g2 g4 he h0 h1 hV g5
    go_enter Tryz.func142, Tryz.ntmps142
    go_wp2_with (first | (go_at_call 172; refine hv.mono ?_; rintro e w' ⟨rfl, hw⟩; rw [hw]))
    go_step3
    go_wp2_with fail
    go_loopw [9] (fun v wr => v = .int .i64 (L : Int) ∧ wr = w) (fun _ _ => 0)
    case atStart => exact ⟨rfl, rfl⟩
    case round =>
      obtain ⟨rfl, rfl⟩ := hrel
      go_wp2_with fail
      try go_step3
      go_upto_region 6 with fail
      go_cut [33] (fun v wx => v = .bool true ∧ Hid (Below wr.heap.size wr wx))
      case first =>
        go_quiet (fail)
        go_wp2_with fail
        all_goals go_meet
        all_goals exact ⟨rfl, Lib.hid (_root_.Go.below_drewN (Below.refl _ _) _)⟩
      case rest =>
      obtain ⟨rfl, HB1⟩ := hcut
      go_upto_region 7 with fail
      go_cut [11] (fun v wx => v = .int .i64 (-1) ∧ Hid (Below wr.heap.size wr wx))
      case first =>
        go_quiet ((go_at_call 139; exact Calls.quiet_of_same (hix _)))
        go_wp2_with fail
        all_goals go_meet
        all_goals exact ⟨rfl, Lib.hid (HB1.out.trans ((_root_.Go.below_drewN (Below.refl _ _) _ : Below wc.heap.size wc (wc.drewN _)).mono HB1.out.size))⟩
      case rest =>
      obtain ⟨rfl, HB2⟩ := hcut
      go_wp2_with fail
      simp (config := { zetaDelta := true }) only [Exit.inBlock, Exit.then, Exit.noGoto_ret]
      go_ret
      exact ⟨rfl, HB2.out⟩
set_option maxRecDepth 100000 in
theorem containsRune_any (r : Nat) (w : World) (h1 : r ≤ 1114111) : Calls Tryz.prog 111 #[.string blkB, .int .i32 (r : Int)] w fun e w' => e = .returned (.bool (blankN r)) ∧ Below w.heap.size w w' := by
  by_cases h : r < 128
  · refine (Tryz.strings_ContainsRune_ascii blkB (r : Int) w (by omega) (by omega)).mono ?_
    rintro e w' ⟨rfl, rfl⟩
    refine ⟨?_, Below.refl _ _⟩
    have hall : ∀ k : Fin 128, decide (0 ≤ Lib.indexByte blkB.data.toList (((k.val : Int)).toNat.toUInt8)) = blankN k.val := by decide +kernel
    rw [hall ⟨r, h⟩]
  · have hi := fun w' => indexRune_hi r w' (by omega) h1
    have hb : blankN r = false := by unfold blankN; simp; omega
    rw [hb]
    clear hb
    go_enter Tryz.func111, Tryz.ntmps111
    go_wp2_with fail
    refine (hi _).mono ?_
    rintro e w' ⟨rfl, hb⟩
    go_wp2_with fail
    go_ret
    exact ⟨rfl, hb⟩
theorem isBlank_any (w : World) : PredGrows Tryz.prog 119 #[] blankN w := by
  intro W x hx _
  have hc := containsRune_any x W hx
  generalize blankN x = t at *
  show Calls Tryz.prog 119 #[.int .i32 (x : Int)] W _
  go_enter Tryz.func119, Tryz.ntmps119
  go_wp2_with fail
  refine hc.mono ?_
  rintro e w' ⟨rfl, hb⟩
  go_wp2_with fail
  go_ret
  exact ⟨rfl, hb⟩
end Go.Proofs.YtmdkneollidkfaaGreatDoor.Fl

/-
  The program's split: the words between blanks.
-/
namespace Go.Proofs.YtmdkneollidkfaaGreatDoor.Fl
open Go.RowKit Go.Shelf

theorem decodeN_hi (n b0 b1 b2 b3 : Nat) (hn : 0 < n) (h : 128 ≤ b0) : 128 ≤ (Lib.decodeN n b0 b1 b2 b3).1 ∧ 1 ≤ (Lib.decodeN n b0 b1 b2 b3).2 ∧ (Lib.decodeN n b0 b1 b2 b3).2 ≤ 4 ∧ (Lib.decodeN n b0 b1 b2 b3).2 ≤ n ∧
    (2 ≤ (Lib.decodeN n b0 b1 b2 b3).2 → 128 ≤ b1) ∧ (3 ≤ (Lib.decodeN n b0 b1 b2 b3).2 → 128 ≤ b2) ∧ (4 ≤ (Lib.decodeN n b0 b1 b2 b3).2 → 128 ≤ b3) := by
  unfold Lib.decodeN
  rw [if_neg (by omega)]
  split
  · next hc =>
    obtain ⟨_, h1, h2⟩ := hc
    split
    · next h3 => dsimp only; omega
    · dsimp only; omega
  · split
    · next hc =>
      obtain ⟨_, ⟨h1, h2⟩, h3, h4⟩ := hc
      split
      · next h5 => dsimp only; omega
      · dsimp only; omega
    · split
      · next hc =>
        obtain ⟨_, ⟨h1, h2⟩, ⟨h3, h4⟩, h5, h6⟩ := hc
        split
        · next h7 => dsimp only; omega
        · dsimp only; omega
      · dsimp only; omega
theorem get_at (s : ByteArray) (i : Nat) (h : i < s.size) : s.get! i = s[i] := by
  show s.data[i]! = s.data[i]
  exact getElem!_pos s.data i h
theorem decode_cases (s : ByteArray) (p : Nat) (hp : p < s.size) : (s[p].toNat < 128 ∧ Utf8.decode s p = (s[p].toNat, 1)) ∨
    (128 ≤ (Utf8.decode s p).1 ∧ 1 ≤ (Utf8.decode s p).2 ∧ p + (Utf8.decode s p).2 ≤ s.size ∧ ∀ j (h : j < s.size), p ≤ j → j < p + (Utf8.decode s p).2 → 128 ≤ s[j].toNat) := by
  rw [Lib.decode_at, get_at s p hp]
  by_cases hl : s[p].toNat < 128
  · left
    refine ⟨hl, ?_⟩
    unfold Lib.decodeN
    rw [if_pos hl]
  · right
    obtain ⟨h1, h2, h3, h4, h5, h6, h7⟩ := decodeN_hi (s.size - p) s[p].toNat (s.get! (p + 1)).toNat (s.get! (p + 2)).toNat (s.get! (p + 3)).toNat (by omega) (by omega)
    generalize (Lib.decodeN (s.size - p) s[p].toNat (s.get! (p + 1)).toNat (s.get! (p + 2)).toNat (s.get! (p + 3)).toNat) = d at *
    refine ⟨h1, h2, by omega, fun j hj hj1 hj2 => ?_⟩
    obtain ⟨k, rfl⟩ : ∃ k, j = p + k := ⟨j - p, by omega⟩
    match k, hj, hj2 with
    | 0, _, _ => show 128 ≤ s[p].toNat; omega
    | 1, hj, hj2 => rw [← get_at s (p + 1) hj]; exact h5 (by omega)
    | 2, hj, hj2 => rw [← get_at s (p + 2) hj]; exact h6 (by omega)
    | 3, hj, hj2 => rw [← get_at s (p + 3) hj]; exact h7 (by omega)
    | k + 4, _, hj2 => omega
theorem words_skip (s : ByteArray) (k : Nat) : ∀ (p a : Nat), a ≤ p → p + k ≤ s.size → (∀ j (h : j < s.size), p ≤ j → j < p + k → blankN s[j].toNat = false) → wordsA (midL s a p) ((sb s).drop p) = wordsA (midL s a (p + k)) ((sb s).drop (p + k)) := by
  induction k with
  | zero => intro p a _ _ _; rfl
  | succ k ih =>
    intro p a ha hk hb
    have hp : p < s.size := by omega
    rw [wordsA_go hp, if_neg (by rw [hb p hp (Nat.le_refl _) (by omega)]; decide), ← mid_more ha hp, ih (p + 1) a (by omega) (by omega) (fun j h h1 h2 => hb j h (by omega) (by omega)), show p + 1 + k = p + (k + 1) by omega]
def curW (s : ByteArray) (p : Nat) : Option Nat → List UInt8
  | some a => midL s a p
  | none => []
theorem spans_words (s : ByteArray) (f : Nat) : ∀ (p : Nat) (st : Option Nat) (acc : List (Nat × Nat)), p ≤ s.size → s.size - p ≤ f → (∀ a, st = some a → a < p) →
    (Lib.closeSpans s (Lib.spansFromP blankN s f p st acc)).map (fun x => midL s x.1 x.2) = acc.map (fun x => midL s x.1 x.2) ++ wordsA (curW s p st) ((sb s).drop p) := by
  induction f with
  | zero =>
    intro p st acc hp hf hs
    have e : p = s.size := by omega
    subst e
    rw [wordsA_end]
    cases st with
    | none => simp [Lib.spansFromP, Lib.closeSpans, curW]
    | some a =>
      have hne : midL s a s.size ≠ [] := fun h => by have := (mid_nil (Nat.le_refl _) (Nat.le_of_lt (hs a rfl))).1 h; have := hs a rfl; omega
      simp [Lib.spansFromP, Lib.closeSpans, curW, hne]
  | succ f ih =>
    intro p st acc hp hf hs
    by_cases hlt : p < s.size
    case neg =>
      have e : p = s.size := by omega
      subst e
      rw [Lib.spansFromP_end _ _ _ _ _ _ hlt, wordsA_end]
      cases st with
      | none => simp [Lib.closeSpans, curW]
      | some a =>
        have hne : midL s a s.size ≠ [] := fun h => by have := (mid_nil (Nat.le_refl _) (Nat.le_of_lt (hs a rfl))).1 h; have := hs a rfl; omega
        simp [Lib.closeSpans, curW, hne]
    rw [Lib.spansFromP.eq_def]
    dsimp only
    rw [if_pos hlt]
    rcases decode_cases s p hlt with ⟨h1, h2⟩ | ⟨h1, h2, h3, h4⟩
    · rw [h2]
      dsimp only
      rw [wordsA_go hlt]
      by_cases hb : blankN s[p].toNat = true
      · rw [if_pos hb, if_pos hb]
        cases st with
        | none =>
          dsimp only
          rw [ih (p + 1) none acc hlt (by omega) (fun a h => by cases h)]
          simp [curW]
        | some a =>
          dsimp only
          rw [ih (p + 1) none (acc ++ [(a, p)]) hlt (by omega) (fun a h => by cases h)]
          have hne : midL s a p ≠ [] := fun h => by have := (mid_nil hp (Nat.le_of_lt (hs a rfl))).1 h; have := hs a rfl; omega
          simp [curW, hne]
      · rw [if_neg hb, if_neg hb]
        cases st with
        | none =>
          dsimp only
          rw [ih (p + 1) (some p) acc hlt (by omega) (fun a h => by cases h; omega)]
          show _ = _ ++ wordsA ([] ++ [s[p]]) _
          rw [show curW s (p + 1) (some p) = [s[p]] from mid_one hlt]
          rfl
        | some a =>
          dsimp only
          rw [ih (p + 1) (some a) acc hlt (by omega) (fun b h => by cases h; have := hs a rfl; omega)]
          rw [show curW s (p + 1) (some a) = midL s a p ++ [s[p]] from mid_more (Nat.le_of_lt (hs a rfl)) hlt]
          rfl
    · generalize Utf8.decode s p = d at *
      have hb : blankN d.1 = false := by unfold blankN; simp; omega
      have hall : ∀ j (h : j < s.size), p ≤ j → j < p + d.2 → blankN s[j].toNat = false := fun j h h5 h6 => by
        have := h4 j h h5 h6
        unfold blankN; simp; omega
      rw [if_neg (by rw [hb]; decide)]
      cases st with
      | none =>
        dsimp only
        rw [ih (p + d.2) (some p) acc h3 (by omega) (fun a h => by cases h; omega)]
        have := words_skip s d.2 p p (Nat.le_refl _) h3 hall
        rw [mid_same] at this
        show _ = _ ++ wordsA [] _
        rw [this]
        rfl
      | some a =>
        dsimp only
        rw [ih (p + d.2) (some a) acc h3 (by omega) (fun b h => by cases h; have := hs a rfl; omega)]
        have := words_skip s d.2 p a (Nat.le_of_lt (hs a rfl)) h3 hall
        show _ = _ ++ wordsA (midL s a p) _
        rw [this]
        rfl
theorem fields_words (s : ByteArray) : (Lib.goFieldsP blankN s).map Value.string = cs_ (wordsA [] (sb s)) := by
  have h := spans_words s s.size 0 none [] (Nat.zero_le _) (by omega) (fun a h => by cases h)
  rw [List.drop_zero, List.map_nil, List.nil_append] at h
  show _ = cs_ (wordsA (curW s 0 none) (sb s))
  rw [← h]
  unfold Lib.goFieldsP Lib.spansOfP cs_
  rw [List.map_map, List.map_map]
  refine List.map_congr_left fun x _ => ?_
  show Value.string (s.extract x.1 x.2) = Value.string (mkB (midL s x.1 x.2))
  rw [← mid_eq]
set_option maxRecDepth 100000 in
set_option maxHeartbeats 4000000 in
theorem splitK_any (s : ByteArray) (w : World) (hs : s.size ≤ 16777216) : Calls Tryz.prog 90 #[.string s] w (WordsPost s w) := by
  have hff := fun w' => Tryz.strings_FieldsFunc_grows 119 #[] (enters_of Tryz.func119 (by kernel_rfl) rfl) blankN s w' (by omega) (isBlank_any w')
  have hlen : (Lib.goFieldsP blankN s).length = (wordsA [] (sb s)).length := by
    have := congrArg List.length (fields_words s)
    rwa [List.length_map, cs_len] at this
  rw [hlen, fields_words] at hff
  have HWL := Lib.hid (wordsA_cnt (sb s) [])
  generalize hW : wordsA [] (sb s) = ws at *
  go_enter Tryz.func90, Tryz.ntmps90
  go_wp2_with fail
  refine (hff _).mono ?_
  rintro e w' ⟨A, rfl, hA, how, hb⟩
  have ho : OwnS w' w.heap.size (.slice (some ⟨A, 0, none⟩) ws.length ws.length) ws := how
  obtain ⟨hrd, _, _, _⟩ := ownS_rd ho
  have HRd := Lib.hid hrd
  have HB := Lib.hid hb
  have HH := Lib.hid (by have := HWL.out; rw [sb_len] at this; exact this : ws.length ≤ s.size + 1)
  clear hff ho how hrd hb hlen
  go_wp2_with (first
    | (refine wpList_append_s (base := w.heap.size) (v := .slice none 0 0) (xs := []) (news := ws) rfl _ _ rfl rfl rfl (ownS_nil _ _) HRd.out (fun h => by cases h) (by simp) (by have := HH.out; omega) HB.out.size ?_
       intro A4 t4 c4 w4 HT4 HO4 HB4))
  go_ret
  obtain rfl : t4 = ws := by rw [HT4.out, List.nil_append]
  rw [WordsPost, hW]
  exact ⟨HB.out.trans HB4.out.1, A4, c4, rfl, HO4.out⟩
end Go.Proofs.YtmdkneollidkfaaGreatDoor.Fl
