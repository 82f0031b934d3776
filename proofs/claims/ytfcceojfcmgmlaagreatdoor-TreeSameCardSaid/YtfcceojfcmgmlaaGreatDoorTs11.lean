/-
  parts.
-/
import Derived.Test.YtfcceojfcmgmlaaGreatDoorTs10
import Derived.Deep.RegionWith
namespace Go.Proofs.YtfcceojfcmgmlaaGreatDoor.Fl
open Go.RowKit Go.Shelf

set_option maxRecDepth 100000 in
set_option maxHeartbeats 8000000 in
theorem walk_TreeSame (a b : Me) (va vb : Value) (at_ : Int) (w : World) (ha : MeAt w (Lo w.heap.size) va a) (hb : MeAt w (Lo w.heap.size) vb b)
    (hE : ∀ w', Below w.heap.size w w' → EnvL w') :
    Calls Tryz.prog 5 #[va, vb, .int .i64 at_] w fun e w' => e = .returned (.bool true) ∧ Below w.heap.size w w' := by
  obtain ⟨Ap, cp, At, ct, Ab, cb, rfl, -⟩ := id ha.ex
  obtain ⟨Ap', cp', At', ct', Ab', cb', rfl, -⟩ := id hb.ex
  obtain ⟨T, hT⟩ : ∃ T, w.heap.size = T := ⟨_, rfl⟩
  obtain ⟨W, hW⟩ : ∃ W, (w.alloc (.cells #[.string (mkB a.nm), .slice Ap a.ps.length cp, .slice At a.ts.length ct, .int .i64 a.pr, .slice Ab a.bd.length cb, .int .i64 a.at_] 25)).alloc (.cells #[.string (mkB b.nm), .slice Ap' b.ps.length cp', .slice At' b.ts.length ct', .int .i64 b.pr, .slice Ab' b.bd.length cb', .int .i64 b.at_] 25) = W := ⟨_, rfl⟩
  obtain ⟨q1, q2, hbW⟩ := boxes2T w _ _ W hW
  have hawW := awake10_any W (fun w' hb => hE w' (hbW.trans (hb.mono hbW.size)))
  have HW := Lib.hid hW
  rw [hT] at q1 q2
  have HT := Lib.hid hT
  have HB := Lib.hid hbW
  have HA := Lib.hid ha
  have HBb := Lib.hid hb
  clear hW hT hbW ha hb
  go_enter Tryz.func5, Tryz.ntmps5
  go_upto_region 1 with fail
  have hW1 := HW.out
  have hT1 := HT.out
  try simp only [hW1]
  try simp only [hT1]
  clear hW1 hT1
  go_upto_region 3 with (go_at_call 7; refine hawW.mono ?_; rintro e w2 ⟨rfl, hb2⟩; clear hawW; have HB2 := Lib.hid (HB.out.trans (hb2.mono HB.out.size)); have p1 := (hb2.block T (lt_of_blk q1)).trans q1; have p2 := (hb2.block (T + 1) (lt_of_blk q2)).trans q2; clear hb2)
  have HCa : Hid (∀ w', Below T w w' → T + 2 ≤ w'.heap.size → Calls Tryz.prog 8 #[.agg #[.string (mkB a.nm), .slice Ap a.ps.length cp, .slice At a.ts.length ct, .int .i64 a.pr, .slice Ab a.bd.length cb, .int .i64 a.at_]] w' fun e w2 => ∃ v', e = .returned v' ∧ MeAt w2 (Nw T w'.heap.size w2.heap.size) v' (cutM a) ∧ Below w'.heap.size w' w2) := by
    have ht := HT.out
    refine Lib.hid (fun w' hb hs => cut_any a _ T w' ?_ (by omega))
    have := HA.out
    rw [ht] at this
    exact this.below hb (Nat.le_refl _)
  have HCb : Hid (∀ w', Below T w w' → T + 2 ≤ w'.heap.size → Calls Tryz.prog 8 #[.agg #[.string (mkB b.nm), .slice Ap' b.ps.length cp', .slice At' b.ts.length ct', .int .i64 b.pr, .slice Ab' b.bd.length cb', .int .i64 b.at_]] w' fun e w2 => ∃ v', e = .returned v' ∧ MeAt w2 (Nw T w'.heap.size w2.heap.size) v' (cutM b) ∧ Below w'.heap.size w' w2) := by
    have ht := HT.out
    refine Lib.hid (fun w' hb hs => cut_any b _ T w' ?_ (by omega))
    have := HBb.out
    rw [ht] at this
    exact this.below hb (Nat.le_refl _)
  have f1 := cells6T p1
  have f2 := cells6T p2
  have l1 := lt_of_blk p1
  have l2 := lt_of_blk p2
  go_cut [] (fun wx => ∃ (Aq : Option Addr) (cq : Nat) (Ar : Option Addr) (cr : Nat) (As : Option Addr) (cs : Nat) (Aq' : Option Addr) (cq' : Nat) (Ar' : Option Addr) (cr' : Nat) (As' : Option Addr) (cs' : Nat), Hid (MeAt wx (Nw T (T + 2) wx.heap.size) (.agg #[.string (mkB (cutM a).nm), .slice Aq (cutM a).ps.length cq, .slice Ar (cutM a).ts.length cr, .int .i64 (cutM a).pr, .slice As (cutM a).bd.length cs, .int .i64 (cutM a).at_]) (cutM a) ∧ wx.heap[T]? = some (.cells #[.string (mkB (cutM a).nm), .slice Aq (cutM a).ps.length cq, .slice Ar (cutM a).ts.length cr, .int .i64 (cutM a).pr, .slice As (cutM a).bd.length cs, .int .i64 (cutM a).at_] 25 (0, 0))) ∧ Hid (MeAt wx (Nw T (T + 2) wx.heap.size) (.agg #[.string (mkB (cutM b).nm), .slice Aq' (cutM b).ps.length cq', .slice Ar' (cutM b).ts.length cr', .int .i64 (cutM b).pr, .slice As' (cutM b).bd.length cs', .int .i64 (cutM b).at_]) (cutM b) ∧ wx.heap[T + 1]? = some (.cells #[.string (mkB (cutM b).nm), .slice Aq' (cutM b).ps.length cq', .slice Ar' (cutM b).ts.length cr', .int .i64 (cutM b).pr, .slice As' (cutM b).bd.length cs', .int .i64 (cutM b).at_] 25 (0, 0))) ∧ Hid (Below T w wx))
  case first =>
    have hsz := HB2.out.size
    have hs2 : T + 2 ≤ w2.heap.size := by omega
    have hbT : Below T w w2 := by have := HB2.out; rwa [HT.out] at this
    have hca := HCa.out w2.drew (hbT.trans (Below.refl _ _).drew) hs2
    have HCw := Lib.hid (fun (w3 : World) (h : Below w2.drew.heap.size w2.drew w3) => HCb.out w3 ((hbT.trans (Below.refl _ _).drew).trans (h.mono (show T ≤ w2.heap.size by omega))) (Nat.le_trans hs2 h.size))
    clear HCa HCb
    go_region_with (first
      | (go_at_call 8; refine hca.mono ?_; rintro e w3 ⟨va, rfl, hma, hb3⟩
         obtain ⟨Aq, cq, Ar, cr, As, cs, rfl, -⟩ := id hma.ex
         have HM3 := Lib.hid (And.intro hma hb3)
         have q3 := (hb3.block T l1).trans p1
         have q4 := (hb3.block (T + 1) l2).trans p2
         have f3 := cells6T q3
         have f4 := cells6T q4
         have l3 := lt_of_blk q3
         have l4 := lt_of_blk q4
         have hcb := HCw.out w3 hb3
         clear hca hma hb3)
      | (go_at_call 8; refine hcb.mono ?_; rintro e w4 ⟨vb, rfl, hmb, hb4⟩
         obtain ⟨Aq', cq', Ar', cr', As', cs', rfl, -⟩ := id hmb.ex
         have HM4 := Lib.hid (And.intro hmb hb4)
         have q5 := (hb4.block T l3).trans q3
         have q6 := (hb4.block (T + 1) l4).trans q4
         have f5 := cells6T q5
         have f6 := cells6T q6
         have l5 := lt_of_blk q5
         have l6 := lt_of_blk q6
         clear hcb hmb hb4))
    all_goals (go_wp2_with fail)
    all_goals go_meet
    all_goals (
      have hb3 := HM3.out.2
      have hb4 := HM4.out.2
      have z3 : w2.heap.size ≤ w3.heap.size := hb3.size
      have z4 := hb4.size
      have hT2 : T ≤ w2.heap.size := by omega
      have hT3 : T ≤ w3.heap.size := by omega
      obtain ⟨W9, hW9⟩ : ∃ W9, w4.setCell ⟨T, 0, none⟩ (.string (mkB (cutM a).nm)) = W9 := ⟨_, rfl⟩
      clear hW9 W9
      obtain ⟨s1, s2, s3, s4, s5⟩ := stores12 q5 q6 ((hbT.trans (Below.refl _ _).drew).trans ((hb3.mono hT2).trans (hb4.mono hT3))) _ _ _ _ _ _ _ _ _ _ _ _ rfl
      refine ⟨_, _, _, _, _, _, _, _, _, _, _, _, Lib.hid ⟨HM3.out.1.keep fun k hk => ?_, s1⟩, Lib.hid ⟨HM4.out.1.keep fun k hk => ?_, s2⟩, Lib.hid s5⟩
      · rcases hk with hk | ⟨h1, h2⟩
        · exact ⟨(s3 k (by omega) (by omega)).trans (hb4.block k (by omega)), .inl hk⟩
        · have h1 : w2.heap.size ≤ k := h1
          exact ⟨(s3 k (by omega) (by omega)).trans (hb4.block k (by omega)), .inr ⟨by omega, by rw [s4]; omega⟩⟩
      · rcases hk with hk | ⟨h1, h2⟩
        · exact ⟨s3 k (by omega) (by omega), .inl hk⟩
        · exact ⟨s3 k (by omega) (by omega), .inr ⟨by omega, by rw [s4]; omega⟩⟩)
  case rest =>
    obtain ⟨wa, rfl⟩ : ∃ w, w = wc := ⟨wc, rfl⟩
    obtain ⟨Aq, cq, Ar, cr, As, cs, Aq', cq', Ar', cr', As', cs', H1, H2, HBl⟩ := hcut
    obtain ⟨hm1, hn1⟩ : ((cutM a).ps.length ≤ 100000000 ∧ (cutM a).ts.length ≤ 100000000 ∧ cntL (cutM a).bd ≤ 10000000 ∧ ∀ y ∈ allL (cutM a).bd, y.ns.length ≤ 100000000) ∧ ((cutM b).ps.length ≤ 100000000 ∧ (cutM b).ts.length ≤ 100000000 ∧ cntL (cutM b).bd ≤ 10000000 ∧ ∀ y ∈ allL (cutM b).bd, y.ns.length ≤ 100000000) := ⟨cut_bds a, cut_bds b⟩
    clear HCa HCb f1 f2 l1 l2 p1 p2 q1 q2
    generalize cutM a = a1 at *
    generalize cutM b = b1 at *
    have hTc : T + 1 < wa.heap.size := lt_of_blk H2.out.2
    have hNl : ∀ k, Nw T (T + 2) wa.heap.size k → k < wa.heap.size := fun k hk => by rcases hk with hk | hk <;> omega
    have HOa := Lib.hid (fun (w' : World) (h : Below wa.heap.size wa w') => own_any a1 _ wa.heap.size w' (H1.out.1.keep fun k hk => ⟨h.block k (hNl k hk), hNl k hk⟩) h.size hm1.1 hm1.2.1 hm1.2.2.1 hm1.2.2.2)
    have HOb := Lib.hid (fun (w' : World) (h : Below wa.heap.size wa w') => own_any b1 _ wa.heap.size w' (H2.out.1.keep fun k hk => ⟨h.block k (hNl k hk), hNl k hk⟩) h.size hn1.1 hn1.2.1 hn1.2.2.1 hn1.2.2.2)
    have HS : Hid (∀ w' : World, Below wa.heap.size wa w' → (w'.cell? ⟨T, 0, none⟩ = some (.string (mkB a1.nm)) ∧ w'.cell? ⟨T, 1, none⟩ = some (.slice Aq a1.ps.length cq) ∧ w'.cell? ⟨T, 2, none⟩ = some (.slice Ar a1.ts.length cr) ∧ w'.cell? ⟨T, 3, none⟩ = some (.int .i64 a1.pr) ∧ w'.cell? ⟨T, 4, none⟩ = some (.slice As a1.bd.length cs) ∧ w'.cell? ⟨T, 5, none⟩ = some (.int .i64 a1.at_) ∧ w'.cell? ⟨T + 1, 0, none⟩ = some (.string (mkB b1.nm)) ∧ w'.cell? ⟨T + 1, 1, none⟩ = some (.slice Aq' b1.ps.length cq') ∧ w'.cell? ⟨T + 1, 2, none⟩ = some (.slice Ar' b1.ts.length cr') ∧ w'.cell? ⟨T + 1, 3, none⟩ = some (.int .i64 b1.pr) ∧ w'.cell? ⟨T + 1, 4, none⟩ = some (.slice As' b1.bd.length cs') ∧ w'.cell? ⟨T + 1, 5, none⟩ = some (.int .i64 b1.at_))) := Lib.hid (fun w' h => by
      obtain ⟨e0, e1, e2, e3, e4, e5, _⟩ := cells6T ((h.block T (by omega)).trans H1.out.2)
      obtain ⟨g0, g1, g2, g3, g4, g5, _⟩ := cells6T ((h.block (T + 1) hTc).trans H2.out.2)
      exact ⟨e0, e1, e2, e3, e4, e5, g0, g1, g2, g3, g4, g5⟩)
    go_upto_region 4 with fail
    go_cut [7, 8] (fun u v wx => ∃ (X Y la ha lb hb9 : Nat) (A1 : Option Addr) (n1 : Nat) (A2 : Option Addr) (n2 : Nat) (A4 : Option Addr) (c4 : Nat) (es : List NE) (B1 : Option Addr) (m1 : Nat) (B2 : Option Addr) (m2 : Nat) (B4 : Option Addr) (d4 : Nat), u = .pointer (some ⟨X, 0, none⟩) ∧ v = .pointer (some ⟨Y, 0, none⟩) ∧ Hid ((wa.heap.size ≤ X ∧ wa.heap.size ≤ Y ∧ X ≠ Y) ∧ (wa.heap.size ≤ la ∧ la ≤ ha ∧ ha ≤ lb ∧ lb ≤ hb9) ∧ (X < la ∨ ha ≤ X) ∧ (Y < la ∨ ha ≤ Y) ∧ (X < lb ∨ hb9 ≤ X) ∧ (Y < lb ∨ hb9 ≤ Y)) ∧ Hid (wx.heap[X]? = some (.cells #[.string (mkB a1.nm), .slice A1 a1.ps.length n1, .slice A2 a1.ts.length n2, .int .i64 a1.pr, .slice A4 a1.bd.length c4, .int .i64 a1.at_] 30 (0, 0))) ∧ Hid (wx.heap[Y]? = some (.cells #[.string (mkB b1.nm), .slice B1 b1.ps.length m1, .slice B2 b1.ts.length m2, .int .i64 b1.pr, .slice B4 b1.bd.length d4, .int .i64 b1.at_] 30 (0, 0))) ∧ Hid (MeAt wx (Iv la ha) (.agg #[.string (mkB a1.nm), .slice A1 a1.ps.length n1, .slice A2 a1.ts.length n2, .int .i64 a1.pr, .slice A4 a1.bd.length c4, .int .i64 a1.at_]) a1 ∧ ha ≤ wx.heap.size) ∧ Hid (MeAt wx (Iv lb hb9) (.agg #[.string (mkB b1.nm), .slice B1 b1.ps.length m1, .slice B2 b1.ts.length m2, .int .i64 b1.pr, .slice B4 b1.bd.length d4, .int .i64 b1.at_]) b1 ∧ hb9 ≤ wx.heap.size) ∧ Hid (OwnP wx la (.slice A4 a1.bd.length c4) es ∧ ∀ x ∈ es, Ent wx (Nx 0 la ha (.slice A4 a1.bd.length c4)) x) ∧ Hid (es.map (fun x => x.1) = a1.bd) ∧ Hid (∀ g, (Value.slice A4 a1.bd.length c4).ownBlock = some g → la ≤ g ∧ g < ha) ∧ Hid (Below wa.heap.size wa wx))
    case first =>
      rename_i KK hKK
      have HKK := Lib.hid hKK
      clear hKK
      refine wp_region_noPanic ?_
      refine wp_region_held_drew (S := (fun w' : World => w'.cell? ⟨T, 0, none⟩ = some (.string (mkB a1.nm)) ∧ w'.cell? ⟨T, 1, none⟩ = some (.slice Aq a1.ps.length cq) ∧ w'.cell? ⟨T, 2, none⟩ = some (.slice Ar a1.ts.length cr) ∧ w'.cell? ⟨T, 3, none⟩ = some (.int .i64 a1.pr) ∧ w'.cell? ⟨T, 4, none⟩ = some (.slice As a1.bd.length cs) ∧ w'.cell? ⟨T, 5, none⟩ = some (.int .i64 a1.at_) ∧ w'.cell? ⟨T + 1, 0, none⟩ = some (.string (mkB b1.nm)) ∧ w'.cell? ⟨T + 1, 1, none⟩ = some (.slice Aq' b1.ps.length cq') ∧ w'.cell? ⟨T + 1, 2, none⟩ = some (.slice Ar' b1.ts.length cr') ∧ w'.cell? ⟨T + 1, 3, none⟩ = some (.int .i64 b1.pr) ∧ w'.cell? ⟨T + 1, 4, none⟩ = some (.slice As' b1.bd.length cs') ∧ w'.cell? ⟨T + 1, 5, none⟩ = some (.int .i64 b1.at_))) (by kernel_rfl) (HS.out _ (Below.refl _ _).drew) (fun hHeld => ?_)
      obtain ⟨W0, hW0⟩ : ∃ W0, wa.drew = W0 := ⟨_, rfl⟩
      have HW := Lib.hid (show Below wa.heap.size wa W0 from by rw [← hW0]; exact (Below.refl _ _).drew)
      rw [hW0] at hHeld ⊢
      clear hW0
      refine wpAnyH_take (i := 0) (v := ?_) (by first | (simp only [List.getElem?_toArray, List.getElem?_cons_zero]; rfl) | rfl) (by kernel_rfl) (by kernel_rfl) (by kernel_rfl) (fun _ _ _ h => h) (Or.inl ⟨by rfl, ?_⟩) (by assumption) ?_
      rotate_left 1
      · (intro w' hSw; (try dsimp only at hSw); go_simp; (try with_reducible rfl))
      try simp only [Act.put, List.setIfInBounds_toArray, List.set_cons_zero, List.set_cons_succ]
      refine wpAnyH_take (i := 2) (v := ?_) (by first | (simp only [List.getElem?_toArray, List.getElem?_cons_succ, List.getElem?_cons_zero]; rfl) | rfl) (by kernel_rfl) (by kernel_rfl) (by kernel_rfl) (fun _ _ _ h => h) (Or.inl ⟨by rfl, ?_⟩) (by assumption) ?_
      rotate_left 1
      · (intro w' hSw; (try dsimp only at hSw); go_simp; (try with_reducible rfl))
      try simp only [Act.put, List.setIfInBounds_toArray, List.set_cons_zero, List.set_cons_succ]
      refine wpAnyH_ready (rs := [1, 4, 5]) (by kernel_rfl) (by simp) ?_
      refine AllReadyH.cons (by first | (simp only [List.getElem?_toArray, List.getElem?_cons_succ, List.getElem?_cons_zero]; rfl) | rfl) (fun K hK => ?_) (AllReadyH.cons (by first | (simp only [List.getElem?_toArray, List.getElem?_cons_succ, List.getElem?_cons_zero]; rfl) | rfl) (fun K hK => ?_) (AllReadyH.cons (by first | (simp only [List.getElem?_toArray, List.getElem?_cons_succ, List.getElem?_cons_zero]; rfl) | rfl) (fun K hK => ?_) AllReadyH.nil))
      · skip
        go_simp
        refine (HOa.out W0 HW.out).mono ?_
        rintro e Wn ⟨v9, he, hma, hb, sa1, sa2, A4, c4, es, hv, he1, he2, he3⟩
        subst hv
        obtain ⟨A1, n1, A2, n2, A9, n9, hv2, -⟩ := id hma.ex
        simp only [Value.agg.injEq, Array.mk.injEq, List.cons.injEq] at hv2
        obtain ⟨-, rfl, rfl, -⟩ := hv2
        subst he
        dsimp only
        have hbs := hb.size
        obtain ⟨la, hl9⟩ : ∃ l, W0.heap.size = l := ⟨_, rfl⟩
        obtain ⟨ha, hh9⟩ : ∃ l, Wn.heap.size = l := ⟨_, rfl⟩
        have hla : wa.heap.size ≤ la ∧ la ≤ ha := ⟨by rw [← hl9]; exact HW.out.size, by rw [← hl9, ← hh9]; exact hbs⟩
        replace HW := Lib.hid (HW.out.trans (hb.mono HW.out.size))
        have HMa := Lib.hid (show MeAt Wn (Iv la ha) _ a1 ∧ ha ≤ Wn.heap.size from ⟨hma.keep fun k hk => ⟨rfl, by rw [hl9, hh9] at hk; exact hk.resolve_left (Nat.not_lt_zero k)⟩, Nat.le_of_eq hh9.symm⟩)
        have hge : ∀ g, (Value.slice A4 a1.bd.length c4).ownBlock = some g → la ≤ g ∧ g < ha := fun g hg => by have := World.ownsRow.lt he2 g hg; rw [hl9, hh9] at this; exact this
        rw [hl9] at he2
        rw [hl9, hh9] at he3
        have HEa := Lib.hid (And.intro he2 he3)
        have HE1 := Lib.hid he1
        clear hma he1 he2 he3 hb hbs hl9 hh9
        obtain ⟨W0, rfl⟩ : ∃ W, W = Wn := ⟨Wn, rfl⟩
        refine hK.out _ _ (HS.out _ HW.out) (fun hHeld => ?_)
        clear hK K
        try simp only [Act.put, List.setIfInBounds_toArray, List.set_cons_zero, List.set_cons_succ]
        refine wpAnyH_ready (rs := [3, 4, 5]) (by kernel_rfl) (by simp) ?_
        refine AllReadyH.cons (by first | (simp only [List.getElem?_toArray, List.getElem?_cons_succ, List.getElem?_cons_zero]; rfl) | rfl) (fun K hK => ?_) (AllReadyH.cons (by first | (simp only [List.getElem?_toArray, List.getElem?_cons_succ, List.getElem?_cons_zero]; rfl) | rfl) (fun K hK => ?_) (AllReadyH.cons (by first | (simp only [List.getElem?_toArray, List.getElem?_cons_succ, List.getElem?_cons_zero]; rfl) | rfl) (fun K hK => ?_) AllReadyH.nil))
        · skip
          go_simp
          refine (HOb.out W0 HW.out).mono ?_
          rintro e Wn ⟨v9, he, hma, hb, sb1, sb2, B4, d4, fs, hv, he1, he2, he3⟩
          subst hv
          obtain ⟨B1, m1, B2, m2, A9, n9, hv2, -⟩ := id hma.ex
          simp only [Value.agg.injEq, Array.mk.injEq, List.cons.injEq] at hv2
          obtain ⟨-, rfl, rfl, -⟩ := hv2
          subst he
          dsimp only
          have hbs := hb.size
          obtain ⟨lb, hl9⟩ : ∃ l, W0.heap.size = l := ⟨_, rfl⟩
          obtain ⟨hb9, hh9⟩ : ∃ l, Wn.heap.size = l := ⟨_, rfl⟩
          have hlb : wa.heap.size ≤ lb ∧ lb ≤ hb9 := ⟨by rw [← hl9]; exact HW.out.size, by rw [← hl9, ← hh9]; exact hbs⟩
          have hab : ha ≤ lb := by rw [← hl9]; exact HMa.out.2
          replace HW := Lib.hid (HW.out.trans (hb.mono HW.out.size))
          replace HEa := Lib.hid (And.intro (OwnP.below HEa.out.1 hb) (fun x hx => (HEa.out.2 x hx).keep fun k hk => ⟨hb.block k (Nat.lt_of_lt_of_le (hk.resolve_left (Nat.not_lt_zero k)).2.1 HMa.out.2), hk⟩))
          replace HMa := Lib.hid (show MeAt Wn (Iv la ha) _ a1 ∧ ha ≤ Wn.heap.size from ⟨HMa.out.1.keep fun k hk => ⟨hb.block k (Nat.lt_of_lt_of_le hk.2 HMa.out.2), hk⟩, Nat.le_trans HMa.out.2 hbs⟩)
          have HMb := Lib.hid (show MeAt Wn (Iv lb hb9) _ b1 ∧ hb9 ≤ Wn.heap.size from ⟨hma.keep fun k hk => ⟨rfl, by rw [hl9, hh9] at hk; exact hk.resolve_left (Nat.not_lt_zero k)⟩, Nat.le_of_eq hh9.symm⟩)
          clear hma he1 he2 he3 hb hbs hl9 hh9
          obtain ⟨W0, rfl⟩ : ∃ W, W = Wn := ⟨Wn, rfl⟩
          refine hK.out _ _ (HS.out _ HW.out) (fun hHeld => ?_)
          clear hK K
          try simp only [Act.put, List.setIfInBounds_toArray, List.set_cons_zero, List.set_cons_succ]
          refine wpAnyH_ready (rs := [4, 5]) (by kernel_rfl) (by simp) ?_
          refine AllReadyH.cons (by first | (simp only [List.getElem?_toArray, List.getElem?_cons_succ, List.getElem?_cons_zero]; rfl) | rfl) (fun K hK => ?_) (AllReadyH.cons (by first | (simp only [List.getElem?_toArray, List.getElem?_cons_succ, List.getElem?_cons_zero]; rfl) | rfl) (fun K hK => ?_) AllReadyH.nil)
          · skip
            go_simp
            show K _ (W0.alloc (.cells #[.string ⟨#[]⟩, .slice none 0 0, .slice none 0 0, .int .i64 0, .slice none 0 0, .int .i64 0] 30))
            obtain ⟨Wn, hn⟩ : ∃ W, W0.alloc (.cells #[.string ⟨#[]⟩, .slice none 0 0, .slice none 0 0, .int .i64 0, .slice none 0 0, .int .i64 0] 30) = W := ⟨_, rfl⟩
            obtain ⟨X, hX⟩ : ∃ X, W0.heap.size = X := ⟨_, rfl⟩
            have hb : Below W0.heap.size W0 Wn := by rw [← hn]; exact (Below.refl _ _).alloc (Nat.le_refl _) _
            have hbs := hb.size
            have HX : Hid (Wn.heap[X]? = some (.cells #[.string ⟨#[]⟩, .slice none 0 0, .slice none 0 0, .int .i64 0, .slice none 0 0, .int .i64 0] 30 (0, 0))) := Lib.hid (by rw [← hn, ← hX]; exact heap_alloc_new W0 _)
            have hsX : wa.heap.size ≤ X := by rw [← hX]; exact HW.out.size
            have hxaX : X < la ∨ ha ≤ X := .inr (by rw [← hX]; exact HMa.out.2)
            have hxbX : X < lb ∨ hb9 ≤ X := .inr (by rw [← hX]; exact HMb.out.2)
            rw [hn]
            try simp only [hX]
            clear hn hX
            replace HW := Lib.hid (HW.out.trans (hb.mono HW.out.size))
            replace HEa := Lib.hid (And.intro (OwnP.below HEa.out.1 hb) (fun x hx => (HEa.out.2 x hx).keep fun k hk => ⟨hb.block k (Nat.lt_of_lt_of_le (hk.resolve_left (Nat.not_lt_zero k)).2.1 HMa.out.2), hk⟩))
            replace HMa := Lib.hid (show MeAt Wn (Iv la ha) _ a1 ∧ ha ≤ Wn.heap.size from ⟨HMa.out.1.keep fun k hk => ⟨hb.block k (Nat.lt_of_lt_of_le hk.2 HMa.out.2), hk⟩, Nat.le_trans HMa.out.2 hbs⟩)
            replace HMb := Lib.hid (show MeAt Wn (Iv lb hb9) _ b1 ∧ hb9 ≤ Wn.heap.size from ⟨HMb.out.1.keep fun k hk => ⟨hb.block k (Nat.lt_of_lt_of_le hk.2 HMb.out.2), hk⟩, Nat.le_trans HMb.out.2 hbs⟩)
            clear hb hbs
            obtain ⟨W0, rfl⟩ : ∃ W, W = Wn := ⟨Wn, rfl⟩
            refine hK.out _ _ (HS.out _ HW.out) (fun hHeld => ?_)
            clear hK K
            try simp only [Act.put, List.setIfInBounds_toArray, List.set_cons_zero, List.set_cons_succ]
            refine wpAnyH_ready (rs := [5]) (by kernel_rfl) (by simp) ?_
            refine AllReadyH.cons (by first | (simp only [List.getElem?_toArray, List.getElem?_cons_succ, List.getElem?_cons_zero]; rfl) | rfl) (fun K hK => ?_) AllReadyH.nil
            go_simp
            show K _ (W0.alloc (.cells #[.string ⟨#[]⟩, .slice none 0 0, .slice none 0 0, .int .i64 0, .slice none 0 0, .int .i64 0] 30))
            obtain ⟨Wn, hn⟩ : ∃ W, W0.alloc (.cells #[.string ⟨#[]⟩, .slice none 0 0, .slice none 0 0, .int .i64 0, .slice none 0 0, .int .i64 0] 30) = W := ⟨_, rfl⟩
            obtain ⟨Y, hY⟩ : ∃ X, W0.heap.size = X := ⟨_, rfl⟩
            have hb : Below W0.heap.size W0 Wn := by rw [← hn]; exact (Below.refl _ _).alloc (Nat.le_refl _) _
            have hbs := hb.size
            have HY : Hid (Wn.heap[Y]? = some (.cells #[.string ⟨#[]⟩, .slice none 0 0, .slice none 0 0, .int .i64 0, .slice none 0 0, .int .i64 0] 30 (0, 0))) := Lib.hid (by rw [← hn, ← hY]; exact heap_alloc_new W0 _)
            have hsY : wa.heap.size ≤ Y := by rw [← hY]; exact HW.out.size
            have hxaY : Y < la ∨ ha ≤ Y := .inr (by rw [← hY]; exact HMa.out.2)
            have hxbY : Y < lb ∨ hb9 ≤ Y := .inr (by rw [← hY]; exact HMb.out.2)
            have hXY : X ≠ Y := by have := lt_of_blk HX.out; omega
            rw [hn]
            try simp only [hY]
            clear hn hY
            replace HW := Lib.hid (HW.out.trans (hb.mono HW.out.size))
            replace HX := Lib.hid ((hb.block X (lt_of_blk HX.out)).trans HX.out)
            replace HEa := Lib.hid (And.intro (OwnP.below HEa.out.1 hb) (fun x hx => (HEa.out.2 x hx).keep fun k hk => ⟨hb.block k (Nat.lt_of_lt_of_le (hk.resolve_left (Nat.not_lt_zero k)).2.1 HMa.out.2), hk⟩))
            replace HMa := Lib.hid (show MeAt Wn (Iv la ha) _ a1 ∧ ha ≤ Wn.heap.size from ⟨HMa.out.1.keep fun k hk => ⟨hb.block k (Nat.lt_of_lt_of_le hk.2 HMa.out.2), hk⟩, Nat.le_trans HMa.out.2 hbs⟩)
            replace HMb := Lib.hid (show MeAt Wn (Iv lb hb9) _ b1 ∧ hb9 ≤ Wn.heap.size from ⟨HMb.out.1.keep fun k hk => ⟨hb.block k (Nat.lt_of_lt_of_le hk.2 HMb.out.2), hk⟩, Nat.le_trans HMb.out.2 hbs⟩)
            clear hb hbs
            obtain ⟨W0, rfl⟩ : ∃ W, W = Wn := ⟨Wn, rfl⟩
            refine hK.out _ _ (HS.out _ HW.out) (fun hHeld => ?_)
            clear hK K
            try simp only [Act.put, List.setIfInBounds_toArray, List.set_cons_zero, List.set_cons_succ]
            refine wpAnyH_ready (rs := [6]) (by kernel_rfl) (by simp) ?_
            refine AllReadyH.cons (by first | (simp only [List.getElem?_toArray, List.getElem?_cons_succ, List.getElem?_cons_zero]; rfl) | rfl) (fun K hK => ?_) AllReadyH.nil
            have fx := cells6T HX.out
            have lx := lt_of_blk HX.out
            go_simp
            have g9 := set6T HX.out (.string (mkB a1.nm)) (.slice A1 a1.ps.length n1) (.slice A2 a1.ts.length n2) (.int .i64 a1.pr) (.slice A4 a1.bd.length c4) (.int .i64 a1.at_)
            obtain ⟨k1, k2⟩ := six_setT (w := W0) (C := X) (.string (mkB a1.nm)) (.slice A1 a1.ps.length n1) (.slice A2 a1.ts.length n2) (.int .i64 a1.pr) (.slice A4 a1.bd.length c4) (.int .i64 a1.at_)
            have hwn := ((((((HW.out).setCell (p := ⟨X, 0, none⟩) hsX (.string (mkB a1.nm))).setCell (p := ⟨X, 1, none⟩) hsX (.slice A1 a1.ps.length n1)).setCell (p := ⟨X, 2, none⟩) hsX (.slice A2 a1.ts.length n2)).setCell (p := ⟨X, 3, none⟩) hsX (.int .i64 a1.pr)).setCell (p := ⟨X, 4, none⟩) hsX (.slice A4 a1.bd.length c4)).setCell (p := ⟨X, 5, none⟩) hsX (.int .i64 a1.at_)
            obtain ⟨Wn, hn⟩ : ∃ W, (((((W0.setCell ⟨X, 0, none⟩ (.string (mkB a1.nm))).setCell ⟨X, 1, none⟩ (.slice A1 a1.ps.length n1)).setCell ⟨X, 2, none⟩ (.slice A2 a1.ts.length n2)).setCell ⟨X, 3, none⟩ (.int .i64 a1.pr)).setCell ⟨X, 4, none⟩ (.slice A4 a1.bd.length c4)).setCell ⟨X, 5, none⟩ (.int .i64 a1.at_) = W := ⟨_, rfl⟩
            rw [hn] at g9 k1 k2 hwn
            rw [hn]
            clear hn fx lx
            replace HW := Lib.hid hwn
            replace HX := Lib.hid g9
            replace HY := Lib.hid ((k1 Y (by omega)).trans HY.out)
            replace HEa := Lib.hid (And.intro (OwnP.keepO HEa.out.1 (fun g hg => k1 g (by have := hge g hg; omega))) (fun x hx => (HEa.out.2 x hx).keep fun k hk => ⟨k1 k (by have := hk.resolve_left (Nat.not_lt_zero k); omega), hk⟩))
            replace HMa := Lib.hid (show MeAt Wn (Iv la ha) _ a1 ∧ ha ≤ Wn.heap.size from ⟨HMa.out.1.keep fun k hk => ⟨k1 k (by have := hk.1; have := hk.2; omega), hk⟩, by rw [k2]; exact HMa.out.2⟩)
            replace HMb := Lib.hid (show MeAt Wn (Iv lb hb9) _ b1 ∧ hb9 ≤ Wn.heap.size from ⟨HMb.out.1.keep fun k hk => ⟨k1 k (by have := hk.1; have := hk.2; omega), hk⟩, by rw [k2]; exact HMb.out.2⟩)
            clear g9 k1 k2 hwn
            obtain ⟨W0, rfl⟩ : ∃ W, W = Wn := ⟨Wn, rfl⟩
            refine hK.out _ _ (HS.out _ HW.out) (fun hHeld => ?_)
            clear hK K
            try simp only [Act.put, List.setIfInBounds_toArray, List.set_cons_zero, List.set_cons_succ]
            refine wpAnyH_ready (rs := [7]) (by kernel_rfl) (by simp) ?_
            refine AllReadyH.cons (by first | (simp only [List.getElem?_toArray, List.getElem?_cons_succ, List.getElem?_cons_zero]; rfl) | rfl) (fun K hK => ?_) AllReadyH.nil
            have fx := cells6T HY.out
            have lx := lt_of_blk HY.out
            go_simp
            have g9 := set6T HY.out (.string (mkB b1.nm)) (.slice B1 b1.ps.length m1) (.slice B2 b1.ts.length m2) (.int .i64 b1.pr) (.slice B4 b1.bd.length d4) (.int .i64 b1.at_)
            obtain ⟨k1, k2⟩ := six_setT (w := W0) (C := Y) (.string (mkB b1.nm)) (.slice B1 b1.ps.length m1) (.slice B2 b1.ts.length m2) (.int .i64 b1.pr) (.slice B4 b1.bd.length d4) (.int .i64 b1.at_)
            have hwn := ((((((HW.out).setCell (p := ⟨Y, 0, none⟩) hsY (.string (mkB b1.nm))).setCell (p := ⟨Y, 1, none⟩) hsY (.slice B1 b1.ps.length m1)).setCell (p := ⟨Y, 2, none⟩) hsY (.slice B2 b1.ts.length m2)).setCell (p := ⟨Y, 3, none⟩) hsY (.int .i64 b1.pr)).setCell (p := ⟨Y, 4, none⟩) hsY (.slice B4 b1.bd.length d4)).setCell (p := ⟨Y, 5, none⟩) hsY (.int .i64 b1.at_)
            obtain ⟨Wn, hn⟩ : ∃ W, (((((W0.setCell ⟨Y, 0, none⟩ (.string (mkB b1.nm))).setCell ⟨Y, 1, none⟩ (.slice B1 b1.ps.length m1)).setCell ⟨Y, 2, none⟩ (.slice B2 b1.ts.length m2)).setCell ⟨Y, 3, none⟩ (.int .i64 b1.pr)).setCell ⟨Y, 4, none⟩ (.slice B4 b1.bd.length d4)).setCell ⟨Y, 5, none⟩ (.int .i64 b1.at_) = W := ⟨_, rfl⟩
            rw [hn] at g9 k1 k2 hwn
            rw [hn]
            clear hn fx lx
            replace HW := Lib.hid hwn
            replace HY := Lib.hid g9
            replace HX := Lib.hid ((k1 X (by omega)).trans HX.out)
            replace HEa := Lib.hid (And.intro (OwnP.keepO HEa.out.1 (fun g hg => k1 g (by have := hge g hg; omega))) (fun x hx => (HEa.out.2 x hx).keep fun k hk => ⟨k1 k (by have := hk.resolve_left (Nat.not_lt_zero k); omega), hk⟩))
            replace HMa := Lib.hid (show MeAt Wn (Iv la ha) _ a1 ∧ ha ≤ Wn.heap.size from ⟨HMa.out.1.keep fun k hk => ⟨k1 k (by have := hk.1; have := hk.2; omega), hk⟩, by rw [k2]; exact HMa.out.2⟩)
            replace HMb := Lib.hid (show MeAt Wn (Iv lb hb9) _ b1 ∧ hb9 ≤ Wn.heap.size from ⟨HMb.out.1.keep fun k hk => ⟨k1 k (by have := hk.1; have := hk.2; omega), hk⟩, by rw [k2]; exact HMb.out.2⟩)
            clear g9 k1 k2 hwn
            obtain ⟨W0, rfl⟩ : ∃ W, W = Wn := ⟨Wn, rfl⟩
            refine hK.out _ _ (HS.out _ HW.out) (fun hHeld => ?_)
            clear hK K
            try simp only [Act.put, List.setIfInBounds_toArray, List.set_cons_zero, List.set_cons_succ]
            refine wpAnyH_done (by kernel_rfl) ?_ _
            refine HKK.out _ _ ?_
            go_wp2_with fail
            go_meet
            exact ⟨X, Y, la, ha, lb, hb9, A1, n1, A2, n2, A4, c4, es, B1, m1, B2, m2, B4, d4, rfl, rfl, Lib.hid ⟨⟨hsX, hsY, hXY⟩, ⟨hla.1, hla.2, hab, hlb.2⟩, hxaX, hxaY, hxbX, hxbY⟩, HX, HY, HMa, HMb, HEa, HE1, Lib.hid hge, HW⟩
          · skip
            go_simp
            show K _ (W0.alloc (.cells #[.string ⟨#[]⟩, .slice none 0 0, .slice none 0 0, .int .i64 0, .slice none 0 0, .int .i64 0] 30))
            obtain ⟨Wn, hn⟩ : ∃ W, W0.alloc (.cells #[.string ⟨#[]⟩, .slice none 0 0, .slice none 0 0, .int .i64 0, .slice none 0 0, .int .i64 0] 30) = W := ⟨_, rfl⟩
            obtain ⟨Y, hY⟩ : ∃ X, W0.heap.size = X := ⟨_, rfl⟩
            have hb : Below W0.heap.size W0 Wn := by rw [← hn]; exact (Below.refl _ _).alloc (Nat.le_refl _) _
            have hbs := hb.size
            have HY : Hid (Wn.heap[Y]? = some (.cells #[.string ⟨#[]⟩, .slice none 0 0, .slice none 0 0, .int .i64 0, .slice none 0 0, .int .i64 0] 30 (0, 0))) := Lib.hid (by rw [← hn, ← hY]; exact heap_alloc_new W0 _)
            have hsY : wa.heap.size ≤ Y := by rw [← hY]; exact HW.out.size
            have hxaY : Y < la ∨ ha ≤ Y := .inr (by rw [← hY]; exact HMa.out.2)
            have hxbY : Y < lb ∨ hb9 ≤ Y := .inr (by rw [← hY]; exact HMb.out.2)
            rw [hn]
            try simp only [hY]
            clear hn hY
            replace HW := Lib.hid (HW.out.trans (hb.mono HW.out.size))
            replace HEa := Lib.hid (And.intro (OwnP.below HEa.out.1 hb) (fun x hx => (HEa.out.2 x hx).keep fun k hk => ⟨hb.block k (Nat.lt_of_lt_of_le (hk.resolve_left (Nat.not_lt_zero k)).2.1 HMa.out.2), hk⟩))
            replace HMa := Lib.hid (show MeAt Wn (Iv la ha) _ a1 ∧ ha ≤ Wn.heap.size from ⟨HMa.out.1.keep fun k hk => ⟨hb.block k (Nat.lt_of_lt_of_le hk.2 HMa.out.2), hk⟩, Nat.le_trans HMa.out.2 hbs⟩)
            replace HMb := Lib.hid (show MeAt Wn (Iv lb hb9) _ b1 ∧ hb9 ≤ Wn.heap.size from ⟨HMb.out.1.keep fun k hk => ⟨hb.block k (Nat.lt_of_lt_of_le hk.2 HMb.out.2), hk⟩, Nat.le_trans HMb.out.2 hbs⟩)
            clear hb hbs
            obtain ⟨W0, rfl⟩ : ∃ W, W = Wn := ⟨Wn, rfl⟩
            refine hK.out _ _ (HS.out _ HW.out) (fun hHeld => ?_)
            clear hK K
            try simp only [Act.put, List.setIfInBounds_toArray, List.set_cons_zero, List.set_cons_succ]
            refine wpAnyH_ready (rs := [4]) (by kernel_rfl) (by simp) ?_
            refine AllReadyH.cons (by first | (simp only [List.getElem?_toArray, List.getElem?_cons_succ, List.getElem?_cons_zero]; rfl) | rfl) (fun K hK => ?_) AllReadyH.nil
            go_simp
            show K _ (W0.alloc (.cells #[.string ⟨#[]⟩, .slice none 0 0, .slice none 0 0, .int .i64 0, .slice none 0 0, .int .i64 0] 30))
            obtain ⟨Wn, hn⟩ : ∃ W, W0.alloc (.cells #[.string ⟨#[]⟩, .slice none 0 0, .slice none 0 0, .int .i64 0, .slice none 0 0, .int .i64 0] 30) = W := ⟨_, rfl⟩
            obtain ⟨X, hX⟩ : ∃ X, W0.heap.size = X := ⟨_, rfl⟩
            have hb : Below W0.heap.size W0 Wn := by rw [← hn]; exact (Below.refl _ _).alloc (Nat.le_refl _) _
            have hbs := hb.size
            have HX : Hid (Wn.heap[X]? = some (.cells #[.string ⟨#[]⟩, .slice none 0 0, .slice none 0 0, .int .i64 0, .slice none 0 0, .int .i64 0] 30 (0, 0))) := Lib.hid (by rw [← hn, ← hX]; exact heap_alloc_new W0 _)
            have hsX : wa.heap.size ≤ X := by rw [← hX]; exact HW.out.size
            have hxaX : X < la ∨ ha ≤ X := .inr (by rw [← hX]; exact HMa.out.2)
            have hxbX : X < lb ∨ hb9 ≤ X := .inr (by rw [← hX]; exact HMb.out.2)
            have hXY : X ≠ Y := by have := lt_of_blk HY.out; omega
            rw [hn]
            try simp only [hX]
            clear hn hX
            replace HW := Lib.hid (HW.out.trans (hb.mono HW.out.size))
            replace HY := Lib.hid ((hb.block Y (lt_of_blk HY.out)).trans HY.out)
            replace HEa := Lib.hid (And.intro (OwnP.below HEa.out.1 hb) (fun x hx => (HEa.out.2 x hx).keep fun k hk => ⟨hb.block k (Nat.lt_of_lt_of_le (hk.resolve_left (Nat.not_lt_zero k)).2.1 HMa.out.2), hk⟩))
            replace HMa := Lib.hid (show MeAt Wn (Iv la ha) _ a1 ∧ ha ≤ Wn.heap.size from ⟨HMa.out.1.keep fun k hk => ⟨hb.block k (Nat.lt_of_lt_of_le hk.2 HMa.out.2), hk⟩, Nat.le_trans HMa.out.2 hbs⟩)
            replace HMb := Lib.hid (show MeAt Wn (Iv lb hb9) _ b1 ∧ hb9 ≤ Wn.heap.size from ⟨HMb.out.1.keep fun k hk => ⟨hb.block k (Nat.lt_of_lt_of_le hk.2 HMb.out.2), hk⟩, Nat.le_trans HMb.out.2 hbs⟩)
            clear hb hbs
            obtain ⟨W0, rfl⟩ : ∃ W, W = Wn := ⟨Wn, rfl⟩
            refine hK.out _ _ (HS.out _ HW.out) (fun hHeld => ?_)
            clear hK K
            try simp only [Act.put, List.setIfInBounds_toArray, List.set_cons_zero, List.set_cons_succ]
            refine wpAnyH_ready (rs := [6]) (by kernel_rfl) (by simp) ?_
            refine AllReadyH.cons (by first | (simp only [List.getElem?_toArray, List.getElem?_cons_succ, List.getElem?_cons_zero]; rfl) | rfl) (fun K hK => ?_) AllReadyH.nil
            have fx := cells6T HX.out
            have lx := lt_of_blk HX.out
            go_simp
            have g9 := set6T HX.out (.string (mkB a1.nm)) (.slice A1 a1.ps.length n1) (.slice A2 a1.ts.length n2) (.int .i64 a1.pr) (.slice A4 a1.bd.length c4) (.int .i64 a1.at_)
            obtain ⟨k1, k2⟩ := six_setT (w := W0) (C := X) (.string (mkB a1.nm)) (.slice A1 a1.ps.length n1) (.slice A2 a1.ts.length n2) (.int .i64 a1.pr) (.slice A4 a1.bd.length c4) (.int .i64 a1.at_)
            have hwn := ((((((HW.out).setCell (p := ⟨X, 0, none⟩) hsX (.string (mkB a1.nm))).setCell (p := ⟨X, 1, none⟩) hsX (.slice A1 a1.ps.length n1)).setCell (p := ⟨X, 2, none⟩) hsX (.slice A2 a1.ts.length n2)).setCell (p := ⟨X, 3, none⟩) hsX (.int .i64 a1.pr)).setCell (p := ⟨X, 4, none⟩) hsX (.slice A4 a1.bd.length c4)).setCell (p := ⟨X, 5, none⟩) hsX (.int .i64 a1.at_)
            obtain ⟨Wn, hn⟩ : ∃ W, (((((W0.setCell ⟨X, 0, none⟩ (.string (mkB a1.nm))).setCell ⟨X, 1, none⟩ (.slice A1 a1.ps.length n1)).setCell ⟨X, 2, none⟩ (.slice A2 a1.ts.length n2)).setCell ⟨X, 3, none⟩ (.int .i64 a1.pr)).setCell ⟨X, 4, none⟩ (.slice A4 a1.bd.length c4)).setCell ⟨X, 5, none⟩ (.int .i64 a1.at_) = W := ⟨_, rfl⟩
            rw [hn] at g9 k1 k2 hwn
            rw [hn]
            clear hn fx lx
            replace HW := Lib.hid hwn
            replace HX := Lib.hid g9
            replace HY := Lib.hid ((k1 Y (by omega)).trans HY.out)
            replace HEa := Lib.hid (And.intro (OwnP.keepO HEa.out.1 (fun g hg => k1 g (by have := hge g hg; omega))) (fun x hx => (HEa.out.2 x hx).keep fun k hk => ⟨k1 k (by have := hk.resolve_left (Nat.not_lt_zero k); omega), hk⟩))
            replace HMa := Lib.hid (show MeAt Wn (Iv la ha) _ a1 ∧ ha ≤ Wn.heap.size from ⟨HMa.out.1.keep fun k hk => ⟨k1 k (by have := hk.1; have := hk.2; omega), hk⟩, by rw [k2]; exact HMa.out.2⟩)
            replace HMb := Lib.hid (show MeAt Wn (Iv lb hb9) _ b1 ∧ hb9 ≤ Wn.heap.size from ⟨HMb.out.1.keep fun k hk => ⟨k1 k (by have := hk.1; have := hk.2; omega), hk⟩, by rw [k2]; exact HMb.out.2⟩)
            clear g9 k1 k2 hwn
            obtain ⟨W0, rfl⟩ : ∃ W, W = Wn := ⟨Wn, rfl⟩
            refine hK.out _ _ (HS.out _ HW.out) (fun hHeld => ?_)
            clear hK K
            try simp only [Act.put, List.setIfInBounds_toArray, List.set_cons_zero, List.set_cons_succ]
            refine wpAnyH_ready (rs := [7]) (by kernel_rfl) (by simp) ?_
            refine AllReadyH.cons (by first | (simp only [List.getElem?_toArray, List.getElem?_cons_succ, List.getElem?_cons_zero]; rfl) | rfl) (fun K hK => ?_) AllReadyH.nil
            have fx := cells6T HY.out
            have lx := lt_of_blk HY.out
            go_simp
            have g9 := set6T HY.out (.string (mkB b1.nm)) (.slice B1 b1.ps.length m1) (.slice B2 b1.ts.length m2) (.int .i64 b1.pr) (.slice B4 b1.bd.length d4) (.int .i64 b1.at_)
            obtain ⟨k1, k2⟩ := six_setT (w := W0) (C := Y) (.string (mkB b1.nm)) (.slice B1 b1.ps.length m1) (.slice B2 b1.ts.length m2) (.int .i64 b1.pr) (.slice B4 b1.bd.length d4) (.int .i64 b1.at_)
            have hwn := ((((((HW.out).setCell (p := ⟨Y, 0, none⟩) hsY (.string (mkB b1.nm))).setCell (p := ⟨Y, 1, none⟩) hsY (.slice B1 b1.ps.length m1)).setCell (p := ⟨Y, 2, none⟩) hsY (.slice B2 b1.ts.length m2)).setCell (p := ⟨Y, 3, none⟩) hsY (.int .i64 b1.pr)).setCell (p := ⟨Y, 4, none⟩) hsY (.slice B4 b1.bd.length d4)).setCell (p := ⟨Y, 5, none⟩) hsY (.int .i64 b1.at_)
            obtain ⟨Wn, hn⟩ : ∃ W, (((((W0.setCell ⟨Y, 0, none⟩ (.string (mkB b1.nm))).setCell ⟨Y, 1, none⟩ (.slice B1 b1.ps.length m1)).setCell ⟨Y, 2, none⟩ (.slice B2 b1.ts.length m2)).setCell ⟨Y, 3, none⟩ (.int .i64 b1.pr)).setCell ⟨Y, 4, none⟩ (.slice B4 b1.bd.length d4)).setCell ⟨Y, 5, none⟩ (.int .i64 b1.at_) = W := ⟨_, rfl⟩
            rw [hn] at g9 k1 k2 hwn
            rw [hn]
            clear hn fx lx
            replace HW := Lib.hid hwn
            replace HY := Lib.hid g9
            replace HX := Lib.hid ((k1 X (by omega)).trans HX.out)
            replace HEa := Lib.hid (And.intro (OwnP.keepO HEa.out.1 (fun g hg => k1 g (by have := hge g hg; omega))) (fun x hx => (HEa.out.2 x hx).keep fun k hk => ⟨k1 k (by have := hk.resolve_left (Nat.not_lt_zero k); omega), hk⟩))
            replace HMa := Lib.hid (show MeAt Wn (Iv la ha) _ a1 ∧ ha ≤ Wn.heap.size from ⟨HMa.out.1.keep fun k hk => ⟨k1 k (by have := hk.1; have := hk.2; omega), hk⟩, by rw [k2]; exact HMa.out.2⟩)
            replace HMb := Lib.hid (show MeAt Wn (Iv lb hb9) _ b1 ∧ hb9 ≤ Wn.heap.size from ⟨HMb.out.1.keep fun k hk => ⟨k1 k (by have := hk.1; have := hk.2; omega), hk⟩, by rw [k2]; exact HMb.out.2⟩)
            clear g9 k1 k2 hwn
            obtain ⟨W0, rfl⟩ : ∃ W, W = Wn := ⟨Wn, rfl⟩
            refine hK.out _ _ (HS.out _ HW.out) (fun hHeld => ?_)
            clear hK K
            try simp only [Act.put, List.setIfInBounds_toArray, List.set_cons_zero, List.set_cons_succ]
            refine wpAnyH_done (by kernel_rfl) ?_ _
            refine HKK.out _ _ ?_
            go_wp2_with fail
            go_meet
            exact ⟨X, Y, la, ha, lb, hb9, A1, n1, A2, n2, A4, c4, es, B1, m1, B2, m2, B4, d4, rfl, rfl, Lib.hid ⟨⟨hsX, hsY, hXY⟩, ⟨hla.1, hla.2, hab, hlb.2⟩, hxaX, hxaY, hxbX, hxbY⟩, HX, HY, HMa, HMb, HEa, HE1, Lib.hid hge, HW⟩
        · skip
          go_simp
          show K _ (W0.alloc (.cells #[.string ⟨#[]⟩, .slice none 0 0, .slice none 0 0, .int .i64 0, .slice none 0 0, .int .i64 0] 30))
          obtain ⟨Wn, hn⟩ : ∃ W, W0.alloc (.cells #[.string ⟨#[]⟩, .slice none 0 0, .slice none 0 0, .int .i64 0, .slice none 0 0, .int .i64 0] 30) = W := ⟨_, rfl⟩
          obtain ⟨X, hX⟩ : ∃ X, W0.heap.size = X := ⟨_, rfl⟩
          have hb : Below W0.heap.size W0 Wn := by rw [← hn]; exact (Below.refl _ _).alloc (Nat.le_refl _) _
          have hbs := hb.size
          have HX : Hid (Wn.heap[X]? = some (.cells #[.string ⟨#[]⟩, .slice none 0 0, .slice none 0 0, .int .i64 0, .slice none 0 0, .int .i64 0] 30 (0, 0))) := Lib.hid (by rw [← hn, ← hX]; exact heap_alloc_new W0 _)
          have hsX : wa.heap.size ≤ X := by rw [← hX]; exact HW.out.size
          have hxaX : X < la ∨ ha ≤ X := .inr (by rw [← hX]; exact HMa.out.2)
          rw [hn]
          try simp only [hX]
          clear hn hX
          replace HW := Lib.hid (HW.out.trans (hb.mono HW.out.size))
          replace HEa := Lib.hid (And.intro (OwnP.below HEa.out.1 hb) (fun x hx => (HEa.out.2 x hx).keep fun k hk => ⟨hb.block k (Nat.lt_of_lt_of_le (hk.resolve_left (Nat.not_lt_zero k)).2.1 HMa.out.2), hk⟩))
          replace HMa := Lib.hid (show MeAt Wn (Iv la ha) _ a1 ∧ ha ≤ Wn.heap.size from ⟨HMa.out.1.keep fun k hk => ⟨hb.block k (Nat.lt_of_lt_of_le hk.2 HMa.out.2), hk⟩, Nat.le_trans HMa.out.2 hbs⟩)
          clear hb hbs
          obtain ⟨W0, rfl⟩ : ∃ W, W = Wn := ⟨Wn, rfl⟩
          refine hK.out _ _ (HS.out _ HW.out) (fun hHeld => ?_)
          clear hK K
          try simp only [Act.put, List.setIfInBounds_toArray, List.set_cons_zero, List.set_cons_succ]
          refine wpAnyH_ready (rs := [3, 5]) (by kernel_rfl) (by simp) ?_
          refine AllReadyH.cons (by first | (simp only [List.getElem?_toArray, List.getElem?_cons_succ, List.getElem?_cons_zero]; rfl) | rfl) (fun K hK => ?_) (AllReadyH.cons (by first | (simp only [List.getElem?_toArray, List.getElem?_cons_succ, List.getElem?_cons_zero]; rfl) | rfl) (fun K hK => ?_) AllReadyH.nil)
          · skip
            go_simp
            refine (HOb.out W0 HW.out).mono ?_
            rintro e Wn ⟨v9, he, hma, hb, sb1, sb2, B4, d4, fs, hv, he1, he2, he3⟩
            subst hv
            obtain ⟨B1, m1, B2, m2, A9, n9, hv2, -⟩ := id hma.ex
            simp only [Value.agg.injEq, Array.mk.injEq, List.cons.injEq] at hv2
            obtain ⟨-, rfl, rfl, -⟩ := hv2
            subst he
            dsimp only
            have hbs := hb.size
            obtain ⟨lb, hl9⟩ : ∃ l, W0.heap.size = l := ⟨_, rfl⟩
            obtain ⟨hb9, hh9⟩ : ∃ l, Wn.heap.size = l := ⟨_, rfl⟩
            have hlb : wa.heap.size ≤ lb ∧ lb ≤ hb9 := ⟨by rw [← hl9]; exact HW.out.size, by rw [← hl9, ← hh9]; exact hbs⟩
            have hxbX : X < lb ∨ hb9 ≤ X := .inl (by rw [← hl9]; exact lt_of_blk HX.out)
            have hab : ha ≤ lb := by rw [← hl9]; exact HMa.out.2
            replace HW := Lib.hid (HW.out.trans (hb.mono HW.out.size))
            replace HX := Lib.hid ((hb.block X (lt_of_blk HX.out)).trans HX.out)
            replace HEa := Lib.hid (And.intro (OwnP.below HEa.out.1 hb) (fun x hx => (HEa.out.2 x hx).keep fun k hk => ⟨hb.block k (Nat.lt_of_lt_of_le (hk.resolve_left (Nat.not_lt_zero k)).2.1 HMa.out.2), hk⟩))
            replace HMa := Lib.hid (show MeAt Wn (Iv la ha) _ a1 ∧ ha ≤ Wn.heap.size from ⟨HMa.out.1.keep fun k hk => ⟨hb.block k (Nat.lt_of_lt_of_le hk.2 HMa.out.2), hk⟩, Nat.le_trans HMa.out.2 hbs⟩)
            have HMb := Lib.hid (show MeAt Wn (Iv lb hb9) _ b1 ∧ hb9 ≤ Wn.heap.size from ⟨hma.keep fun k hk => ⟨rfl, by rw [hl9, hh9] at hk; exact hk.resolve_left (Nat.not_lt_zero k)⟩, Nat.le_of_eq hh9.symm⟩)
            clear hma he1 he2 he3 hb hbs hl9 hh9
            obtain ⟨W0, rfl⟩ : ∃ W, W = Wn := ⟨Wn, rfl⟩
            refine hK.out _ _ (HS.out _ HW.out) (fun hHeld => ?_)
            clear hK K
            try simp only [Act.put, List.setIfInBounds_toArray, List.set_cons_zero, List.set_cons_succ]
            refine wpAnyH_ready (rs := [5]) (by kernel_rfl) (by simp) ?_
            refine AllReadyH.cons (by first | (simp only [List.getElem?_toArray, List.getElem?_cons_succ, List.getElem?_cons_zero]; rfl) | rfl) (fun K hK => ?_) AllReadyH.nil
            go_simp
            show K _ (W0.alloc (.cells #[.string ⟨#[]⟩, .slice none 0 0, .slice none 0 0, .int .i64 0, .slice none 0 0, .int .i64 0] 30))
            obtain ⟨Wn, hn⟩ : ∃ W, W0.alloc (.cells #[.string ⟨#[]⟩, .slice none 0 0, .slice none 0 0, .int .i64 0, .slice none 0 0, .int .i64 0] 30) = W := ⟨_, rfl⟩
            obtain ⟨Y, hY⟩ : ∃ X, W0.heap.size = X := ⟨_, rfl⟩
            have hb : Below W0.heap.size W0 Wn := by rw [← hn]; exact (Below.refl _ _).alloc (Nat.le_refl _) _
            have hbs := hb.size
            have HY : Hid (Wn.heap[Y]? = some (.cells #[.string ⟨#[]⟩, .slice none 0 0, .slice none 0 0, .int .i64 0, .slice none 0 0, .int .i64 0] 30 (0, 0))) := Lib.hid (by rw [← hn, ← hY]; exact heap_alloc_new W0 _)
            have hsY : wa.heap.size ≤ Y := by rw [← hY]; exact HW.out.size
            have hxaY : Y < la ∨ ha ≤ Y := .inr (by rw [← hY]; exact HMa.out.2)
            have hxbY : Y < lb ∨ hb9 ≤ Y := .inr (by rw [← hY]; exact HMb.out.2)
            have hXY : X ≠ Y := by have := lt_of_blk HX.out; omega
            rw [hn]
            try simp only [hY]
            clear hn hY
            replace HW := Lib.hid (HW.out.trans (hb.mono HW.out.size))
            replace HX := Lib.hid ((hb.block X (lt_of_blk HX.out)).trans HX.out)
            replace HEa := Lib.hid (And.intro (OwnP.below HEa.out.1 hb) (fun x hx => (HEa.out.2 x hx).keep fun k hk => ⟨hb.block k (Nat.lt_of_lt_of_le (hk.resolve_left (Nat.not_lt_zero k)).2.1 HMa.out.2), hk⟩))
            replace HMa := Lib.hid (show MeAt Wn (Iv la ha) _ a1 ∧ ha ≤ Wn.heap.size from ⟨HMa.out.1.keep fun k hk => ⟨hb.block k (Nat.lt_of_lt_of_le hk.2 HMa.out.2), hk⟩, Nat.le_trans HMa.out.2 hbs⟩)
            replace HMb := Lib.hid (show MeAt Wn (Iv lb hb9) _ b1 ∧ hb9 ≤ Wn.heap.size from ⟨HMb.out.1.keep fun k hk => ⟨hb.block k (Nat.lt_of_lt_of_le hk.2 HMb.out.2), hk⟩, Nat.le_trans HMb.out.2 hbs⟩)
            clear hb hbs
            obtain ⟨W0, rfl⟩ : ∃ W, W = Wn := ⟨Wn, rfl⟩
            refine hK.out _ _ (HS.out _ HW.out) (fun hHeld => ?_)
            clear hK K
            try simp only [Act.put, List.setIfInBounds_toArray, List.set_cons_zero, List.set_cons_succ]
            refine wpAnyH_ready (rs := [6]) (by kernel_rfl) (by simp) ?_
            refine AllReadyH.cons (by first | (simp only [List.getElem?_toArray, List.getElem?_cons_succ, List.getElem?_cons_zero]; rfl) | rfl) (fun K hK => ?_) AllReadyH.nil
            have fx := cells6T HX.out
            have lx := lt_of_blk HX.out
            go_simp
            have g9 := set6T HX.out (.string (mkB a1.nm)) (.slice A1 a1.ps.length n1) (.slice A2 a1.ts.length n2) (.int .i64 a1.pr) (.slice A4 a1.bd.length c4) (.int .i64 a1.at_)
            obtain ⟨k1, k2⟩ := six_setT (w := W0) (C := X) (.string (mkB a1.nm)) (.slice A1 a1.ps.length n1) (.slice A2 a1.ts.length n2) (.int .i64 a1.pr) (.slice A4 a1.bd.length c4) (.int .i64 a1.at_)
            have hwn := ((((((HW.out).setCell (p := ⟨X, 0, none⟩) hsX (.string (mkB a1.nm))).setCell (p := ⟨X, 1, none⟩) hsX (.slice A1 a1.ps.length n1)).setCell (p := ⟨X, 2, none⟩) hsX (.slice A2 a1.ts.length n2)).setCell (p := ⟨X, 3, none⟩) hsX (.int .i64 a1.pr)).setCell (p := ⟨X, 4, none⟩) hsX (.slice A4 a1.bd.length c4)).setCell (p := ⟨X, 5, none⟩) hsX (.int .i64 a1.at_)
            obtain ⟨Wn, hn⟩ : ∃ W, (((((W0.setCell ⟨X, 0, none⟩ (.string (mkB a1.nm))).setCell ⟨X, 1, none⟩ (.slice A1 a1.ps.length n1)).setCell ⟨X, 2, none⟩ (.slice A2 a1.ts.length n2)).setCell ⟨X, 3, none⟩ (.int .i64 a1.pr)).setCell ⟨X, 4, none⟩ (.slice A4 a1.bd.length c4)).setCell ⟨X, 5, none⟩ (.int .i64 a1.at_) = W := ⟨_, rfl⟩
            rw [hn] at g9 k1 k2 hwn
            rw [hn]
            clear hn fx lx
            replace HW := Lib.hid hwn
            replace HX := Lib.hid g9
            replace HY := Lib.hid ((k1 Y (by omega)).trans HY.out)
            replace HEa := Lib.hid (And.intro (OwnP.keepO HEa.out.1 (fun g hg => k1 g (by have := hge g hg; omega))) (fun x hx => (HEa.out.2 x hx).keep fun k hk => ⟨k1 k (by have := hk.resolve_left (Nat.not_lt_zero k); omega), hk⟩))
            replace HMa := Lib.hid (show MeAt Wn (Iv la ha) _ a1 ∧ ha ≤ Wn.heap.size from ⟨HMa.out.1.keep fun k hk => ⟨k1 k (by have := hk.1; have := hk.2; omega), hk⟩, by rw [k2]; exact HMa.out.2⟩)
            replace HMb := Lib.hid (show MeAt Wn (Iv lb hb9) _ b1 ∧ hb9 ≤ Wn.heap.size from ⟨HMb.out.1.keep fun k hk => ⟨k1 k (by have := hk.1; have := hk.2; omega), hk⟩, by rw [k2]; exact HMb.out.2⟩)
            clear g9 k1 k2 hwn
            obtain ⟨W0, rfl⟩ : ∃ W, W = Wn := ⟨Wn, rfl⟩
            refine hK.out _ _ (HS.out _ HW.out) (fun hHeld => ?_)
            clear hK K
            try simp only [Act.put, List.setIfInBounds_toArray, List.set_cons_zero, List.set_cons_succ]
            refine wpAnyH_ready (rs := [7]) (by kernel_rfl) (by simp) ?_
            refine AllReadyH.cons (by first | (simp only [List.getElem?_toArray, List.getElem?_cons_succ, List.getElem?_cons_zero]; rfl) | rfl) (fun K hK => ?_) AllReadyH.nil
            have fx := cells6T HY.out
            have lx := lt_of_blk HY.out
            go_simp
            have g9 := set6T HY.out (.string (mkB b1.nm)) (.slice B1 b1.ps.length m1) (.slice B2 b1.ts.length m2) (.int .i64 b1.pr) (.slice B4 b1.bd.length d4) (.int .i64 b1.at_)
            obtain ⟨k1, k2⟩ := six_setT (w := W0) (C := Y) (.string (mkB b1.nm)) (.slice B1 b1.ps.length m1) (.slice B2 b1.ts.length m2) (.int .i64 b1.pr) (.slice B4 b1.bd.length d4) (.int .i64 b1.at_)
            have hwn := ((((((HW.out).setCell (p := ⟨Y, 0, none⟩) hsY (.string (mkB b1.nm))).setCell (p := ⟨Y, 1, none⟩) hsY (.slice B1 b1.ps.length m1)).setCell (p := ⟨Y, 2, none⟩) hsY (.slice B2 b1.ts.length m2)).setCell (p := ⟨Y, 3, none⟩) hsY (.int .i64 b1.pr)).setCell (p := ⟨Y, 4, none⟩) hsY (.slice B4 b1.bd.length d4)).setCell (p := ⟨Y, 5, none⟩) hsY (.int .i64 b1.at_)
            obtain ⟨Wn, hn⟩ : ∃ W, (((((W0.setCell ⟨Y, 0, none⟩ (.string (mkB b1.nm))).setCell ⟨Y, 1, none⟩ (.slice B1 b1.ps.length m1)).setCell ⟨Y, 2, none⟩ (.slice B2 b1.ts.length m2)).setCell ⟨Y, 3, none⟩ (.int .i64 b1.pr)).setCell ⟨Y, 4, none⟩ (.slice B4 b1.bd.length d4)).setCell ⟨Y, 5, none⟩ (.int .i64 b1.at_) = W := ⟨_, rfl⟩
            rw [hn] at g9 k1 k2 hwn
            rw [hn]
            clear hn fx lx
            replace HW := Lib.hid hwn
            replace HY := Lib.hid g9
            replace HX := Lib.hid ((k1 X (by omega)).trans HX.out)
            replace HEa := Lib.hid (And.intro (OwnP.keepO HEa.out.1 (fun g hg => k1 g (by have := hge g hg; omega))) (fun x hx => (HEa.out.2 x hx).keep fun k hk => ⟨k1 k (by have := hk.resolve_left (Nat.not_lt_zero k); omega), hk⟩))
            replace HMa := Lib.hid (show MeAt Wn (Iv la ha) _ a1 ∧ ha ≤ Wn.heap.size from ⟨HMa.out.1.keep fun k hk => ⟨k1 k (by have := hk.1; have := hk.2; omega), hk⟩, by rw [k2]; exact HMa.out.2⟩)
            replace HMb := Lib.hid (show MeAt Wn (Iv lb hb9) _ b1 ∧ hb9 ≤ Wn.heap.size from ⟨HMb.out.1.keep fun k hk => ⟨k1 k (by have := hk.1; have := hk.2; omega), hk⟩, by rw [k2]; exact HMb.out.2⟩)
            clear g9 k1 k2 hwn
            obtain ⟨W0, rfl⟩ : ∃ W, W = Wn := ⟨Wn, rfl⟩
            refine hK.out _ _ (HS.out _ HW.out) (fun hHeld => ?_)
            clear hK K
            try simp only [Act.put, List.setIfInBounds_toArray, List.set_cons_zero, List.set_cons_succ]
            refine wpAnyH_done (by kernel_rfl) ?_ _
            refine HKK.out _ _ ?_
            go_wp2_with fail
            go_meet
            exact ⟨X, Y, la, ha, lb, hb9, A1, n1, A2, n2, A4, c4, es, B1, m1, B2, m2, B4, d4, rfl, rfl, Lib.hid ⟨⟨hsX, hsY, hXY⟩, ⟨hla.1, hla.2, hab, hlb.2⟩, hxaX, hxaY, hxbX, hxbY⟩, HX, HY, HMa, HMb, HEa, HE1, Lib.hid hge, HW⟩
          · skip
            go_simp
            show K _ (W0.alloc (.cells #[.string ⟨#[]⟩, .slice none 0 0, .slice none 0 0, .int .i64 0, .slice none 0 0, .int .i64 0] 30))
            obtain ⟨Wn, hn⟩ : ∃ W, W0.alloc (.cells #[.string ⟨#[]⟩, .slice none 0 0, .slice none 0 0, .int .i64 0, .slice none 0 0, .int .i64 0] 30) = W := ⟨_, rfl⟩
            obtain ⟨Y, hY⟩ : ∃ X, W0.heap.size = X := ⟨_, rfl⟩
            have hb : Below W0.heap.size W0 Wn := by rw [← hn]; exact (Below.refl _ _).alloc (Nat.le_refl _) _
            have hbs := hb.size
            have HY : Hid (Wn.heap[Y]? = some (.cells #[.string ⟨#[]⟩, .slice none 0 0, .slice none 0 0, .int .i64 0, .slice none 0 0, .int .i64 0] 30 (0, 0))) := Lib.hid (by rw [← hn, ← hY]; exact heap_alloc_new W0 _)
            have hsY : wa.heap.size ≤ Y := by rw [← hY]; exact HW.out.size
            have hxaY : Y < la ∨ ha ≤ Y := .inr (by rw [← hY]; exact HMa.out.2)
            have hXY : X ≠ Y := by have := lt_of_blk HX.out; omega
            rw [hn]
            try simp only [hY]
            clear hn hY
            replace HW := Lib.hid (HW.out.trans (hb.mono HW.out.size))
            replace HX := Lib.hid ((hb.block X (lt_of_blk HX.out)).trans HX.out)
            replace HEa := Lib.hid (And.intro (OwnP.below HEa.out.1 hb) (fun x hx => (HEa.out.2 x hx).keep fun k hk => ⟨hb.block k (Nat.lt_of_lt_of_le (hk.resolve_left (Nat.not_lt_zero k)).2.1 HMa.out.2), hk⟩))
            replace HMa := Lib.hid (show MeAt Wn (Iv la ha) _ a1 ∧ ha ≤ Wn.heap.size from ⟨HMa.out.1.keep fun k hk => ⟨hb.block k (Nat.lt_of_lt_of_le hk.2 HMa.out.2), hk⟩, Nat.le_trans HMa.out.2 hbs⟩)
            clear hb hbs
            obtain ⟨W0, rfl⟩ : ∃ W, W = Wn := ⟨Wn, rfl⟩
            refine hK.out _ _ (HS.out _ HW.out) (fun hHeld => ?_)
            clear hK K
            try simp only [Act.put, List.setIfInBounds_toArray, List.set_cons_zero, List.set_cons_succ]
            refine wpAnyH_ready (rs := [3]) (by kernel_rfl) (by simp) ?_
            refine AllReadyH.cons (by first | (simp only [List.getElem?_toArray, List.getElem?_cons_succ, List.getElem?_cons_zero]; rfl) | rfl) (fun K hK => ?_) AllReadyH.nil
            go_simp
            refine (HOb.out W0 HW.out).mono ?_
            rintro e Wn ⟨v9, he, hma, hb, sb1, sb2, B4, d4, fs, hv, he1, he2, he3⟩
            subst hv
            obtain ⟨B1, m1, B2, m2, A9, n9, hv2, -⟩ := id hma.ex
            simp only [Value.agg.injEq, Array.mk.injEq, List.cons.injEq] at hv2
            obtain ⟨-, rfl, rfl, -⟩ := hv2
            subst he
            dsimp only
            have hbs := hb.size
            obtain ⟨lb, hl9⟩ : ∃ l, W0.heap.size = l := ⟨_, rfl⟩
            obtain ⟨hb9, hh9⟩ : ∃ l, Wn.heap.size = l := ⟨_, rfl⟩
            have hlb : wa.heap.size ≤ lb ∧ lb ≤ hb9 := ⟨by rw [← hl9]; exact HW.out.size, by rw [← hl9, ← hh9]; exact hbs⟩
            have hxbX : X < lb ∨ hb9 ≤ X := .inl (by rw [← hl9]; exact lt_of_blk HX.out)
            have hxbY : Y < lb ∨ hb9 ≤ Y := .inl (by rw [← hl9]; exact lt_of_blk HY.out)
            have hab : ha ≤ lb := by rw [← hl9]; exact HMa.out.2
            replace HW := Lib.hid (HW.out.trans (hb.mono HW.out.size))
            replace HX := Lib.hid ((hb.block X (lt_of_blk HX.out)).trans HX.out)
            replace HY := Lib.hid ((hb.block Y (lt_of_blk HY.out)).trans HY.out)
            replace HEa := Lib.hid (And.intro (OwnP.below HEa.out.1 hb) (fun x hx => (HEa.out.2 x hx).keep fun k hk => ⟨hb.block k (Nat.lt_of_lt_of_le (hk.resolve_left (Nat.not_lt_zero k)).2.1 HMa.out.2), hk⟩))
            replace HMa := Lib.hid (show MeAt Wn (Iv la ha) _ a1 ∧ ha ≤ Wn.heap.size from ⟨HMa.out.1.keep fun k hk => ⟨hb.block k (Nat.lt_of_lt_of_le hk.2 HMa.out.2), hk⟩, Nat.le_trans HMa.out.2 hbs⟩)
            have HMb := Lib.hid (show MeAt Wn (Iv lb hb9) _ b1 ∧ hb9 ≤ Wn.heap.size from ⟨hma.keep fun k hk => ⟨rfl, by rw [hl9, hh9] at hk; exact hk.resolve_left (Nat.not_lt_zero k)⟩, Nat.le_of_eq hh9.symm⟩)
            clear hma he1 he2 he3 hb hbs hl9 hh9
            obtain ⟨W0, rfl⟩ : ∃ W, W = Wn := ⟨Wn, rfl⟩
            refine hK.out _ _ (HS.out _ HW.out) (fun hHeld => ?_)
            clear hK K
            try simp only [Act.put, List.setIfInBounds_toArray, List.set_cons_zero, List.set_cons_succ]
            refine wpAnyH_ready (rs := [6]) (by kernel_rfl) (by simp) ?_
            refine AllReadyH.cons (by first | (simp only [List.getElem?_toArray, List.getElem?_cons_succ, List.getElem?_cons_zero]; rfl) | rfl) (fun K hK => ?_) AllReadyH.nil
            have fx := cells6T HX.out
            have lx := lt_of_blk HX.out
            go_simp
            have g9 := set6T HX.out (.string (mkB a1.nm)) (.slice A1 a1.ps.length n1) (.slice A2 a1.ts.length n2) (.int .i64 a1.pr) (.slice A4 a1.bd.length c4) (.int .i64 a1.at_)
            obtain ⟨k1, k2⟩ := six_setT (w := W0) (C := X) (.string (mkB a1.nm)) (.slice A1 a1.ps.length n1) (.slice A2 a1.ts.length n2) (.int .i64 a1.pr) (.slice A4 a1.bd.length c4) (.int .i64 a1.at_)
            have hwn := ((((((HW.out).setCell (p := ⟨X, 0, none⟩) hsX (.string (mkB a1.nm))).setCell (p := ⟨X, 1, none⟩) hsX (.slice A1 a1.ps.length n1)).setCell (p := ⟨X, 2, none⟩) hsX (.slice A2 a1.ts.length n2)).setCell (p := ⟨X, 3, none⟩) hsX (.int .i64 a1.pr)).setCell (p := ⟨X, 4, none⟩) hsX (.slice A4 a1.bd.length c4)).setCell (p := ⟨X, 5, none⟩) hsX (.int .i64 a1.at_)
            obtain ⟨Wn, hn⟩ : ∃ W, (((((W0.setCell ⟨X, 0, none⟩ (.string (mkB a1.nm))).setCell ⟨X, 1, none⟩ (.slice A1 a1.ps.length n1)).setCell ⟨X, 2, none⟩ (.slice A2 a1.ts.length n2)).setCell ⟨X, 3, none⟩ (.int .i64 a1.pr)).setCell ⟨X, 4, none⟩ (.slice A4 a1.bd.length c4)).setCell ⟨X, 5, none⟩ (.int .i64 a1.at_) = W := ⟨_, rfl⟩
            rw [hn] at g9 k1 k2 hwn
            rw [hn]
            clear hn fx lx
            replace HW := Lib.hid hwn
            replace HX := Lib.hid g9
            replace HY := Lib.hid ((k1 Y (by omega)).trans HY.out)
            replace HEa := Lib.hid (And.intro (OwnP.keepO HEa.out.1 (fun g hg => k1 g (by have := hge g hg; omega))) (fun x hx => (HEa.out.2 x hx).keep fun k hk => ⟨k1 k (by have := hk.resolve_left (Nat.not_lt_zero k); omega), hk⟩))
            replace HMa := Lib.hid (show MeAt Wn (Iv la ha) _ a1 ∧ ha ≤ Wn.heap.size from ⟨HMa.out.1.keep fun k hk => ⟨k1 k (by have := hk.1; have := hk.2; omega), hk⟩, by rw [k2]; exact HMa.out.2⟩)
            replace HMb := Lib.hid (show MeAt Wn (Iv lb hb9) _ b1 ∧ hb9 ≤ Wn.heap.size from ⟨HMb.out.1.keep fun k hk => ⟨k1 k (by have := hk.1; have := hk.2; omega), hk⟩, by rw [k2]; exact HMb.out.2⟩)
            clear g9 k1 k2 hwn
            obtain ⟨W0, rfl⟩ : ∃ W, W = Wn := ⟨Wn, rfl⟩
            refine hK.out _ _ (HS.out _ HW.out) (fun hHeld => ?_)
            clear hK K
            try simp only [Act.put, List.setIfInBounds_toArray, List.set_cons_zero, List.set_cons_succ]
            refine wpAnyH_ready (rs := [7]) (by kernel_rfl) (by simp) ?_
            refine AllReadyH.cons (by first | (simp only [List.getElem?_toArray, List.getElem?_cons_succ, List.getElem?_cons_zero]; rfl) | rfl) (fun K hK => ?_) AllReadyH.nil
            have fx := cells6T HY.out
            have lx := lt_of_blk HY.out
            go_simp
            have g9 := set6T HY.out (.string (mkB b1.nm)) (.slice B1 b1.ps.length m1) (.slice B2 b1.ts.length m2) (.int .i64 b1.pr) (.slice B4 b1.bd.length d4) (.int .i64 b1.at_)
            obtain ⟨k1, k2⟩ := six_setT (w := W0) (C := Y) (.string (mkB b1.nm)) (.slice B1 b1.ps.length m1) (.slice B2 b1.ts.length m2) (.int .i64 b1.pr) (.slice B4 b1.bd.length d4) (.int .i64 b1.at_)
            have hwn := ((((((HW.out).setCell (p := ⟨Y, 0, none⟩) hsY (.string (mkB b1.nm))).setCell (p := ⟨Y, 1, none⟩) hsY (.slice B1 b1.ps.length m1)).setCell (p := ⟨Y, 2, none⟩) hsY (.slice B2 b1.ts.length m2)).setCell (p := ⟨Y, 3, none⟩) hsY (.int .i64 b1.pr)).setCell (p := ⟨Y, 4, none⟩) hsY (.slice B4 b1.bd.length d4)).setCell (p := ⟨Y, 5, none⟩) hsY (.int .i64 b1.at_)
            obtain ⟨Wn, hn⟩ : ∃ W, (((((W0.setCell ⟨Y, 0, none⟩ (.string (mkB b1.nm))).setCell ⟨Y, 1, none⟩ (.slice B1 b1.ps.length m1)).setCell ⟨Y, 2, none⟩ (.slice B2 b1.ts.length m2)).setCell ⟨Y, 3, none⟩ (.int .i64 b1.pr)).setCell ⟨Y, 4, none⟩ (.slice B4 b1.bd.length d4)).setCell ⟨Y, 5, none⟩ (.int .i64 b1.at_) = W := ⟨_, rfl⟩
            rw [hn] at g9 k1 k2 hwn
            rw [hn]
            clear hn fx lx
            replace HW := Lib.hid hwn
            replace HY := Lib.hid g9
            replace HX := Lib.hid ((k1 X (by omega)).trans HX.out)
            replace HEa := Lib.hid (And.intro (OwnP.keepO HEa.out.1 (fun g hg => k1 g (by have := hge g hg; omega))) (fun x hx => (HEa.out.2 x hx).keep fun k hk => ⟨k1 k (by have := hk.resolve_left (Nat.not_lt_zero k); omega), hk⟩))
            replace HMa := Lib.hid (show MeAt Wn (Iv la ha) _ a1 ∧ ha ≤ Wn.heap.size from ⟨HMa.out.1.keep fun k hk => ⟨k1 k (by have := hk.1; have := hk.2; omega), hk⟩, by rw [k2]; exact HMa.out.2⟩)
            replace HMb := Lib.hid (show MeAt Wn (Iv lb hb9) _ b1 ∧ hb9 ≤ Wn.heap.size from ⟨HMb.out.1.keep fun k hk => ⟨k1 k (by have := hk.1; have := hk.2; omega), hk⟩, by rw [k2]; exact HMb.out.2⟩)
            clear g9 k1 k2 hwn
            obtain ⟨W0, rfl⟩ : ∃ W, W = Wn := ⟨Wn, rfl⟩
            refine hK.out _ _ (HS.out _ HW.out) (fun hHeld => ?_)
            clear hK K
            try simp only [Act.put, List.setIfInBounds_toArray, List.set_cons_zero, List.set_cons_succ]
            refine wpAnyH_done (by kernel_rfl) ?_ _
            refine HKK.out _ _ ?_
            go_wp2_with fail
            go_meet
            exact ⟨X, Y, la, ha, lb, hb9, A1, n1, A2, n2, A4, c4, es, B1, m1, B2, m2, B4, d4, rfl, rfl, Lib.hid ⟨⟨hsX, hsY, hXY⟩, ⟨hla.1, hla.2, hab, hlb.2⟩, hxaX, hxaY, hxbX, hxbY⟩, HX, HY, HMa, HMb, HEa, HE1, Lib.hid hge, HW⟩
        · skip
          go_simp
          show K _ (W0.alloc (.cells #[.string ⟨#[]⟩, .slice none 0 0, .slice none 0 0, .int .i64 0, .slice none 0 0, .int .i64 0] 30))
          obtain ⟨Wn, hn⟩ : ∃ W, W0.alloc (.cells #[.string ⟨#[]⟩, .slice none 0 0, .slice none 0 0, .int .i64 0, .slice none 0 0, .int .i64 0] 30) = W := ⟨_, rfl⟩
          obtain ⟨Y, hY⟩ : ∃ X, W0.heap.size = X := ⟨_, rfl⟩
          have hb : Below W0.heap.size W0 Wn := by rw [← hn]; exact (Below.refl _ _).alloc (Nat.le_refl _) _
          have hbs := hb.size
          have HY : Hid (Wn.heap[Y]? = some (.cells #[.string ⟨#[]⟩, .slice none 0 0, .slice none 0 0, .int .i64 0, .slice none 0 0, .int .i64 0] 30 (0, 0))) := Lib.hid (by rw [← hn, ← hY]; exact heap_alloc_new W0 _)
          have hsY : wa.heap.size ≤ Y := by rw [← hY]; exact HW.out.size
          have hxaY : Y < la ∨ ha ≤ Y := .inr (by rw [← hY]; exact HMa.out.2)
          rw [hn]
          try simp only [hY]
          clear hn hY
          replace HW := Lib.hid (HW.out.trans (hb.mono HW.out.size))
          replace HEa := Lib.hid (And.intro (OwnP.below HEa.out.1 hb) (fun x hx => (HEa.out.2 x hx).keep fun k hk => ⟨hb.block k (Nat.lt_of_lt_of_le (hk.resolve_left (Nat.not_lt_zero k)).2.1 HMa.out.2), hk⟩))
          replace HMa := Lib.hid (show MeAt Wn (Iv la ha) _ a1 ∧ ha ≤ Wn.heap.size from ⟨HMa.out.1.keep fun k hk => ⟨hb.block k (Nat.lt_of_lt_of_le hk.2 HMa.out.2), hk⟩, Nat.le_trans HMa.out.2 hbs⟩)
          clear hb hbs
          obtain ⟨W0, rfl⟩ : ∃ W, W = Wn := ⟨Wn, rfl⟩
          refine hK.out _ _ (HS.out _ HW.out) (fun hHeld => ?_)
          clear hK K
          try simp only [Act.put, List.setIfInBounds_toArray, List.set_cons_zero, List.set_cons_succ]
          refine wpAnyH_ready (rs := [3, 4]) (by kernel_rfl) (by simp) ?_
          refine AllReadyH.cons (by first | (simp only [List.getElem?_toArray, List.getElem?_cons_succ, List.getElem?_cons_zero]; rfl) | rfl) (fun K hK => ?_) (AllReadyH.cons (by first | (simp only [List.getElem?_toArray, List.getElem?_cons_succ, List.getElem?_cons_zero]; rfl) | rfl) (fun K hK => ?_) AllReadyH.nil)
          · skip
            go_simp
            refine (HOb.out W0 HW.out).mono ?_
            rintro e Wn ⟨v9, he, hma, hb, sb1, sb2, B4, d4, fs, hv, he1, he2, he3⟩
            subst hv
            obtain ⟨B1, m1, B2, m2, A9, n9, hv2, -⟩ := id hma.ex
            simp only [Value.agg.injEq, Array.mk.injEq, List.cons.injEq] at hv2
            obtain ⟨-, rfl, rfl, -⟩ := hv2
            subst he
            dsimp only
            have hbs := hb.size
            obtain ⟨lb, hl9⟩ : ∃ l, W0.heap.size = l := ⟨_, rfl⟩
            obtain ⟨hb9, hh9⟩ : ∃ l, Wn.heap.size = l := ⟨_, rfl⟩
            have hlb : wa.heap.size ≤ lb ∧ lb ≤ hb9 := ⟨by rw [← hl9]; exact HW.out.size, by rw [← hl9, ← hh9]; exact hbs⟩
            have hxbY : Y < lb ∨ hb9 ≤ Y := .inl (by rw [← hl9]; exact lt_of_blk HY.out)
            have hab : ha ≤ lb := by rw [← hl9]; exact HMa.out.2
            replace HW := Lib.hid (HW.out.trans (hb.mono HW.out.size))
            replace HY := Lib.hid ((hb.block Y (lt_of_blk HY.out)).trans HY.out)
            replace HEa := Lib.hid (And.intro (OwnP.below HEa.out.1 hb) (fun x hx => (HEa.out.2 x hx).keep fun k hk => ⟨hb.block k (Nat.lt_of_lt_of_le (hk.resolve_left (Nat.not_lt_zero k)).2.1 HMa.out.2), hk⟩))
            replace HMa := Lib.hid (show MeAt Wn (Iv la ha) _ a1 ∧ ha ≤ Wn.heap.size from ⟨HMa.out.1.keep fun k hk => ⟨hb.block k (Nat.lt_of_lt_of_le hk.2 HMa.out.2), hk⟩, Nat.le_trans HMa.out.2 hbs⟩)
            have HMb := Lib.hid (show MeAt Wn (Iv lb hb9) _ b1 ∧ hb9 ≤ Wn.heap.size from ⟨hma.keep fun k hk => ⟨rfl, by rw [hl9, hh9] at hk; exact hk.resolve_left (Nat.not_lt_zero k)⟩, Nat.le_of_eq hh9.symm⟩)
            clear hma he1 he2 he3 hb hbs hl9 hh9
            obtain ⟨W0, rfl⟩ : ∃ W, W = Wn := ⟨Wn, rfl⟩
            refine hK.out _ _ (HS.out _ HW.out) (fun hHeld => ?_)
            clear hK K
            try simp only [Act.put, List.setIfInBounds_toArray, List.set_cons_zero, List.set_cons_succ]
            refine wpAnyH_ready (rs := [4]) (by kernel_rfl) (by simp) ?_
            refine AllReadyH.cons (by first | (simp only [List.getElem?_toArray, List.getElem?_cons_succ, List.getElem?_cons_zero]; rfl) | rfl) (fun K hK => ?_) AllReadyH.nil
            go_simp
            show K _ (W0.alloc (.cells #[.string ⟨#[]⟩, .slice none 0 0, .slice none 0 0, .int .i64 0, .slice none 0 0, .int .i64 0] 30))
            obtain ⟨Wn, hn⟩ : ∃ W, W0.alloc (.cells #[.string ⟨#[]⟩, .slice none 0 0, .slice none 0 0, .int .i64 0, .slice none 0 0, .int .i64 0] 30) = W := ⟨_, rfl⟩
            obtain ⟨X, hX⟩ : ∃ X, W0.heap.size = X := ⟨_, rfl⟩
            have hb : Below W0.heap.size W0 Wn := by rw [← hn]; exact (Below.refl _ _).alloc (Nat.le_refl _) _
            have hbs := hb.size
            have HX : Hid (Wn.heap[X]? = some (.cells #[.string ⟨#[]⟩, .slice none 0 0, .slice none 0 0, .int .i64 0, .slice none 0 0, .int .i64 0] 30 (0, 0))) := Lib.hid (by rw [← hn, ← hX]; exact heap_alloc_new W0 _)
            have hsX : wa.heap.size ≤ X := by rw [← hX]; exact HW.out.size
            have hxaX : X < la ∨ ha ≤ X := .inr (by rw [← hX]; exact HMa.out.2)
            have hxbX : X < lb ∨ hb9 ≤ X := .inr (by rw [← hX]; exact HMb.out.2)
            have hXY : X ≠ Y := by have := lt_of_blk HY.out; omega
            rw [hn]
            try simp only [hX]
            clear hn hX
            replace HW := Lib.hid (HW.out.trans (hb.mono HW.out.size))
            replace HY := Lib.hid ((hb.block Y (lt_of_blk HY.out)).trans HY.out)
            replace HEa := Lib.hid (And.intro (OwnP.below HEa.out.1 hb) (fun x hx => (HEa.out.2 x hx).keep fun k hk => ⟨hb.block k (Nat.lt_of_lt_of_le (hk.resolve_left (Nat.not_lt_zero k)).2.1 HMa.out.2), hk⟩))
            replace HMa := Lib.hid (show MeAt Wn (Iv la ha) _ a1 ∧ ha ≤ Wn.heap.size from ⟨HMa.out.1.keep fun k hk => ⟨hb.block k (Nat.lt_of_lt_of_le hk.2 HMa.out.2), hk⟩, Nat.le_trans HMa.out.2 hbs⟩)
            replace HMb := Lib.hid (show MeAt Wn (Iv lb hb9) _ b1 ∧ hb9 ≤ Wn.heap.size from ⟨HMb.out.1.keep fun k hk => ⟨hb.block k (Nat.lt_of_lt_of_le hk.2 HMb.out.2), hk⟩, Nat.le_trans HMb.out.2 hbs⟩)
            clear hb hbs
            obtain ⟨W0, rfl⟩ : ∃ W, W = Wn := ⟨Wn, rfl⟩
            refine hK.out _ _ (HS.out _ HW.out) (fun hHeld => ?_)
            clear hK K
            try simp only [Act.put, List.setIfInBounds_toArray, List.set_cons_zero, List.set_cons_succ]
            refine wpAnyH_ready (rs := [6]) (by kernel_rfl) (by simp) ?_
            refine AllReadyH.cons (by first | (simp only [List.getElem?_toArray, List.getElem?_cons_succ, List.getElem?_cons_zero]; rfl) | rfl) (fun K hK => ?_) AllReadyH.nil
            have fx := cells6T HX.out
            have lx := lt_of_blk HX.out
            go_simp
            have g9 := set6T HX.out (.string (mkB a1.nm)) (.slice A1 a1.ps.length n1) (.slice A2 a1.ts.length n2) (.int .i64 a1.pr) (.slice A4 a1.bd.length c4) (.int .i64 a1.at_)
            obtain ⟨k1, k2⟩ := six_setT (w := W0) (C := X) (.string (mkB a1.nm)) (.slice A1 a1.ps.length n1) (.slice A2 a1.ts.length n2) (.int .i64 a1.pr) (.slice A4 a1.bd.length c4) (.int .i64 a1.at_)
            have hwn := ((((((HW.out).setCell (p := ⟨X, 0, none⟩) hsX (.string (mkB a1.nm))).setCell (p := ⟨X, 1, none⟩) hsX (.slice A1 a1.ps.length n1)).setCell (p := ⟨X, 2, none⟩) hsX (.slice A2 a1.ts.length n2)).setCell (p := ⟨X, 3, none⟩) hsX (.int .i64 a1.pr)).setCell (p := ⟨X, 4, none⟩) hsX (.slice A4 a1.bd.length c4)).setCell (p := ⟨X, 5, none⟩) hsX (.int .i64 a1.at_)
            obtain ⟨Wn, hn⟩ : ∃ W, (((((W0.setCell ⟨X, 0, none⟩ (.string (mkB a1.nm))).setCell ⟨X, 1, none⟩ (.slice A1 a1.ps.length n1)).setCell ⟨X, 2, none⟩ (.slice A2 a1.ts.length n2)).setCell ⟨X, 3, none⟩ (.int .i64 a1.pr)).setCell ⟨X, 4, none⟩ (.slice A4 a1.bd.length c4)).setCell ⟨X, 5, none⟩ (.int .i64 a1.at_) = W := ⟨_, rfl⟩
            rw [hn] at g9 k1 k2 hwn
            rw [hn]
            clear hn fx lx
            replace HW := Lib.hid hwn
            replace HX := Lib.hid g9
            replace HY := Lib.hid ((k1 Y (by omega)).trans HY.out)
            replace HEa := Lib.hid (And.intro (OwnP.keepO HEa.out.1 (fun g hg => k1 g (by have := hge g hg; omega))) (fun x hx => (HEa.out.2 x hx).keep fun k hk => ⟨k1 k (by have := hk.resolve_left (Nat.not_lt_zero k); omega), hk⟩))
            replace HMa := Lib.hid (show MeAt Wn (Iv la ha) _ a1 ∧ ha ≤ Wn.heap.size from ⟨HMa.out.1.keep fun k hk => ⟨k1 k (by have := hk.1; have := hk.2; omega), hk⟩, by rw [k2]; exact HMa.out.2⟩)
            replace HMb := Lib.hid (show MeAt Wn (Iv lb hb9) _ b1 ∧ hb9 ≤ Wn.heap.size from ⟨HMb.out.1.keep fun k hk => ⟨k1 k (by have := hk.1; have := hk.2; omega), hk⟩, by rw [k2]; exact HMb.out.2⟩)
            clear g9 k1 k2 hwn
            obtain ⟨W0, rfl⟩ : ∃ W, W = Wn := ⟨Wn, rfl⟩
            refine hK.out _ _ (HS.out _ HW.out) (fun hHeld => ?_)
            clear hK K
            try simp only [Act.put, List.setIfInBounds_toArray, List.set_cons_zero, List.set_cons_succ]
            refine wpAnyH_ready (rs := [7]) (by kernel_rfl) (by simp) ?_
            refine AllReadyH.cons (by first | (simp only [List.getElem?_toArray, List.getElem?_cons_succ, List.getElem?_cons_zero]; rfl) | rfl) (fun K hK => ?_) AllReadyH.nil
            have fx := cells6T HY.out
            have lx := lt_of_blk HY.out
            go_simp
            have g9 := set6T HY.out (.string (mkB b1.nm)) (.slice B1 b1.ps.length m1) (.slice B2 b1.ts.length m2) (.int .i64 b1.pr) (.slice B4 b1.bd.length d4) (.int .i64 b1.at_)
            obtain ⟨k1, k2⟩ := six_setT (w := W0) (C := Y) (.string (mkB b1.nm)) (.slice B1 b1.ps.length m1) (.slice B2 b1.ts.length m2) (.int .i64 b1.pr) (.slice B4 b1.bd.length d4) (.int .i64 b1.at_)
            have hwn := ((((((HW.out).setCell (p := ⟨Y, 0, none⟩) hsY (.string (mkB b1.nm))).setCell (p := ⟨Y, 1, none⟩) hsY (.slice B1 b1.ps.length m1)).setCell (p := ⟨Y, 2, none⟩) hsY (.slice B2 b1.ts.length m2)).setCell (p := ⟨Y, 3, none⟩) hsY (.int .i64 b1.pr)).setCell (p := ⟨Y, 4, none⟩) hsY (.slice B4 b1.bd.length d4)).setCell (p := ⟨Y, 5, none⟩) hsY (.int .i64 b1.at_)
            obtain ⟨Wn, hn⟩ : ∃ W, (((((W0.setCell ⟨Y, 0, none⟩ (.string (mkB b1.nm))).setCell ⟨Y, 1, none⟩ (.slice B1 b1.ps.length m1)).setCell ⟨Y, 2, none⟩ (.slice B2 b1.ts.length m2)).setCell ⟨Y, 3, none⟩ (.int .i64 b1.pr)).setCell ⟨Y, 4, none⟩ (.slice B4 b1.bd.length d4)).setCell ⟨Y, 5, none⟩ (.int .i64 b1.at_) = W := ⟨_, rfl⟩
            rw [hn] at g9 k1 k2 hwn
            rw [hn]
            clear hn fx lx
            replace HW := Lib.hid hwn
            replace HY := Lib.hid g9
            replace HX := Lib.hid ((k1 X (by omega)).trans HX.out)
            replace HEa := Lib.hid (And.intro (OwnP.keepO HEa.out.1 (fun g hg => k1 g (by have := hge g hg; omega))) (fun x hx => (HEa.out.2 x hx).keep fun k hk => ⟨k1 k (by have := hk.resolve_left (Nat.not_lt_zero k); omega), hk⟩))
            replace HMa := Lib.hid (show MeAt Wn (Iv la ha) _ a1 ∧ ha ≤ Wn.heap.size from ⟨HMa.out.1.keep fun k hk => ⟨k1 k (by have := hk.1; have := hk.2; omega), hk⟩, by rw [k2]; exact HMa.out.2⟩)
            replace HMb := Lib.hid (show MeAt Wn (Iv lb hb9) _ b1 ∧ hb9 ≤ Wn.heap.size from ⟨HMb.out.1.keep fun k hk => ⟨k1 k (by have := hk.1; have := hk.2; omega), hk⟩, by rw [k2]; exact HMb.out.2⟩)
            clear g9 k1 k2 hwn
            obtain ⟨W0, rfl⟩ : ∃ W, W = Wn := ⟨Wn, rfl⟩
            refine hK.out _ _ (HS.out _ HW.out) (fun hHeld => ?_)
            clear hK K
            try simp only [Act.put, List.setIfInBounds_toArray, List.set_cons_zero, List.set_cons_succ]
            refine wpAnyH_done (by kernel_rfl) ?_ _
            refine HKK.out _ _ ?_
            go_wp2_with fail
            go_meet
            exact ⟨X, Y, la, ha, lb, hb9, A1, n1, A2, n2, A4, c4, es, B1, m1, B2, m2, B4, d4, rfl, rfl, Lib.hid ⟨⟨hsX, hsY, hXY⟩, ⟨hla.1, hla.2, hab, hlb.2⟩, hxaX, hxaY, hxbX, hxbY⟩, HX, HY, HMa, HMb, HEa, HE1, Lib.hid hge, HW⟩
          · skip
            go_simp
            show K _ (W0.alloc (.cells #[.string ⟨#[]⟩, .slice none 0 0, .slice none 0 0, .int .i64 0, .slice none 0 0, .int .i64 0] 30))
            obtain ⟨Wn, hn⟩ : ∃ W, W0.alloc (.cells #[.string ⟨#[]⟩, .slice none 0 0, .slice none 0 0, .int .i64 0, .slice none 0 0, .int .i64 0] 30) = W := ⟨_, rfl⟩
            obtain ⟨X, hX⟩ : ∃ X, W0.heap.size = X := ⟨_, rfl⟩
            have hb : Below W0.heap.size W0 Wn := by rw [← hn]; exact (Below.refl _ _).alloc (Nat.le_refl _) _
            have hbs := hb.size
            have HX : Hid (Wn.heap[X]? = some (.cells #[.string ⟨#[]⟩, .slice none 0 0, .slice none 0 0, .int .i64 0, .slice none 0 0, .int .i64 0] 30 (0, 0))) := Lib.hid (by rw [← hn, ← hX]; exact heap_alloc_new W0 _)
            have hsX : wa.heap.size ≤ X := by rw [← hX]; exact HW.out.size
            have hxaX : X < la ∨ ha ≤ X := .inr (by rw [← hX]; exact HMa.out.2)
            have hXY : X ≠ Y := by have := lt_of_blk HY.out; omega
            rw [hn]
            try simp only [hX]
            clear hn hX
            replace HW := Lib.hid (HW.out.trans (hb.mono HW.out.size))
            replace HY := Lib.hid ((hb.block Y (lt_of_blk HY.out)).trans HY.out)
            replace HEa := Lib.hid (And.intro (OwnP.below HEa.out.1 hb) (fun x hx => (HEa.out.2 x hx).keep fun k hk => ⟨hb.block k (Nat.lt_of_lt_of_le (hk.resolve_left (Nat.not_lt_zero k)).2.1 HMa.out.2), hk⟩))
            replace HMa := Lib.hid (show MeAt Wn (Iv la ha) _ a1 ∧ ha ≤ Wn.heap.size from ⟨HMa.out.1.keep fun k hk => ⟨hb.block k (Nat.lt_of_lt_of_le hk.2 HMa.out.2), hk⟩, Nat.le_trans HMa.out.2 hbs⟩)
            clear hb hbs
            obtain ⟨W0, rfl⟩ : ∃ W, W = Wn := ⟨Wn, rfl⟩
            refine hK.out _ _ (HS.out _ HW.out) (fun hHeld => ?_)
            clear hK K
            try simp only [Act.put, List.setIfInBounds_toArray, List.set_cons_zero, List.set_cons_succ]
            refine wpAnyH_ready (rs := [3]) (by kernel_rfl) (by simp) ?_
            refine AllReadyH.cons (by first | (simp only [List.getElem?_toArray, List.getElem?_cons_succ, List.getElem?_cons_zero]; rfl) | rfl) (fun K hK => ?_) AllReadyH.nil
            go_simp
            refine (HOb.out W0 HW.out).mono ?_
            rintro e Wn ⟨v9, he, hma, hb, sb1, sb2, B4, d4, fs, hv, he1, he2, he3⟩
            subst hv
            obtain ⟨B1, m1, B2, m2, A9, n9, hv2, -⟩ := id hma.ex
            simp only [Value.agg.injEq, Array.mk.injEq, List.cons.injEq] at hv2
            obtain ⟨-, rfl, rfl, -⟩ := hv2
            subst he
            dsimp only
            have hbs := hb.size
            obtain ⟨lb, hl9⟩ : ∃ l, W0.heap.size = l := ⟨_, rfl⟩
            obtain ⟨hb9, hh9⟩ : ∃ l, Wn.heap.size = l := ⟨_, rfl⟩
            have hlb : wa.heap.size ≤ lb ∧ lb ≤ hb9 := ⟨by rw [← hl9]; exact HW.out.size, by rw [← hl9, ← hh9]; exact hbs⟩
            have hxbX : X < lb ∨ hb9 ≤ X := .inl (by rw [← hl9]; exact lt_of_blk HX.out)
            have hxbY : Y < lb ∨ hb9 ≤ Y := .inl (by rw [← hl9]; exact lt_of_blk HY.out)
            have hab : ha ≤ lb := by rw [← hl9]; exact HMa.out.2
            replace HW := Lib.hid (HW.out.trans (hb.mono HW.out.size))
            replace HX := Lib.hid ((hb.block X (lt_of_blk HX.out)).trans HX.out)
            replace HY := Lib.hid ((hb.block Y (lt_of_blk HY.out)).trans HY.out)
            replace HEa := Lib.hid (And.intro (OwnP.below HEa.out.1 hb) (fun x hx => (HEa.out.2 x hx).keep fun k hk => ⟨hb.block k (Nat.lt_of_lt_of_le (hk.resolve_left (Nat.not_lt_zero k)).2.1 HMa.out.2), hk⟩))
            replace HMa := Lib.hid (show MeAt Wn (Iv la ha) _ a1 ∧ ha ≤ Wn.heap.size from ⟨HMa.out.1.keep fun k hk => ⟨hb.block k (Nat.lt_of_lt_of_le hk.2 HMa.out.2), hk⟩, Nat.le_trans HMa.out.2 hbs⟩)
            have HMb := Lib.hid (show MeAt Wn (Iv lb hb9) _ b1 ∧ hb9 ≤ Wn.heap.size from ⟨hma.keep fun k hk => ⟨rfl, by rw [hl9, hh9] at hk; exact hk.resolve_left (Nat.not_lt_zero k)⟩, Nat.le_of_eq hh9.symm⟩)
            clear hma he1 he2 he3 hb hbs hl9 hh9
            obtain ⟨W0, rfl⟩ : ∃ W, W = Wn := ⟨Wn, rfl⟩
            refine hK.out _ _ (HS.out _ HW.out) (fun hHeld => ?_)
            clear hK K
            try simp only [Act.put, List.setIfInBounds_toArray, List.set_cons_zero, List.set_cons_succ]
            refine wpAnyH_ready (rs := [6]) (by kernel_rfl) (by simp) ?_
            refine AllReadyH.cons (by first | (simp only [List.getElem?_toArray, List.getElem?_cons_succ, List.getElem?_cons_zero]; rfl) | rfl) (fun K hK => ?_) AllReadyH.nil
            have fx := cells6T HX.out
            have lx := lt_of_blk HX.out
            go_simp
            have g9 := set6T HX.out (.string (mkB a1.nm)) (.slice A1 a1.ps.length n1) (.slice A2 a1.ts.length n2) (.int .i64 a1.pr) (.slice A4 a1.bd.length c4) (.int .i64 a1.at_)
            obtain ⟨k1, k2⟩ := six_setT (w := W0) (C := X) (.string (mkB a1.nm)) (.slice A1 a1.ps.length n1) (.slice A2 a1.ts.length n2) (.int .i64 a1.pr) (.slice A4 a1.bd.length c4) (.int .i64 a1.at_)
            have hwn := ((((((HW.out).setCell (p := ⟨X, 0, none⟩) hsX (.string (mkB a1.nm))).setCell (p := ⟨X, 1, none⟩) hsX (.slice A1 a1.ps.length n1)).setCell (p := ⟨X, 2, none⟩) hsX (.slice A2 a1.ts.length n2)).setCell (p := ⟨X, 3, none⟩) hsX (.int .i64 a1.pr)).setCell (p := ⟨X, 4, none⟩) hsX (.slice A4 a1.bd.length c4)).setCell (p := ⟨X, 5, none⟩) hsX (.int .i64 a1.at_)
            obtain ⟨Wn, hn⟩ : ∃ W, (((((W0.setCell ⟨X, 0, none⟩ (.string (mkB a1.nm))).setCell ⟨X, 1, none⟩ (.slice A1 a1.ps.length n1)).setCell ⟨X, 2, none⟩ (.slice A2 a1.ts.length n2)).setCell ⟨X, 3, none⟩ (.int .i64 a1.pr)).setCell ⟨X, 4, none⟩ (.slice A4 a1.bd.length c4)).setCell ⟨X, 5, none⟩ (.int .i64 a1.at_) = W := ⟨_, rfl⟩
            rw [hn] at g9 k1 k2 hwn
            rw [hn]
            clear hn fx lx
            replace HW := Lib.hid hwn
            replace HX := Lib.hid g9
            replace HY := Lib.hid ((k1 Y (by omega)).trans HY.out)
            replace HEa := Lib.hid (And.intro (OwnP.keepO HEa.out.1 (fun g hg => k1 g (by have := hge g hg; omega))) (fun x hx => (HEa.out.2 x hx).keep fun k hk => ⟨k1 k (by have := hk.resolve_left (Nat.not_lt_zero k); omega), hk⟩))
            replace HMa := Lib.hid (show MeAt Wn (Iv la ha) _ a1 ∧ ha ≤ Wn.heap.size from ⟨HMa.out.1.keep fun k hk => ⟨k1 k (by have := hk.1; have := hk.2; omega), hk⟩, by rw [k2]; exact HMa.out.2⟩)
            replace HMb := Lib.hid (show MeAt Wn (Iv lb hb9) _ b1 ∧ hb9 ≤ Wn.heap.size from ⟨HMb.out.1.keep fun k hk => ⟨k1 k (by have := hk.1; have := hk.2; omega), hk⟩, by rw [k2]; exact HMb.out.2⟩)
            clear g9 k1 k2 hwn
            obtain ⟨W0, rfl⟩ : ∃ W, W = Wn := ⟨Wn, rfl⟩
            refine hK.out _ _ (HS.out _ HW.out) (fun hHeld => ?_)
            clear hK K
            try simp only [Act.put, List.setIfInBounds_toArray, List.set_cons_zero, List.set_cons_succ]
            refine wpAnyH_ready (rs := [7]) (by kernel_rfl) (by simp) ?_
            refine AllReadyH.cons (by first | (simp only [List.getElem?_toArray, List.getElem?_cons_succ, List.getElem?_cons_zero]; rfl) | rfl) (fun K hK => ?_) AllReadyH.nil
            have fx := cells6T HY.out
            have lx := lt_of_blk HY.out
            go_simp
            have g9 := set6T HY.out (.string (mkB b1.nm)) (.slice B1 b1.ps.length m1) (.slice B2 b1.ts.length m2) (.int .i64 b1.pr) (.slice B4 b1.bd.length d4) (.int .i64 b1.at_)
            obtain ⟨k1, k2⟩ := six_setT (w := W0) (C := Y) (.string (mkB b1.nm)) (.slice B1 b1.ps.length m1) (.slice B2 b1.ts.length m2) (.int .i64 b1.pr) (.slice B4 b1.bd.length d4) (.int .i64 b1.at_)
            have hwn := ((((((HW.out).setCell (p := ⟨Y, 0, none⟩) hsY (.string (mkB b1.nm))).setCell (p := ⟨Y, 1, none⟩) hsY (.slice B1 b1.ps.length m1)).setCell (p := ⟨Y, 2, none⟩) hsY (.slice B2 b1.ts.length m2)).setCell (p := ⟨Y, 3, none⟩) hsY (.int .i64 b1.pr)).setCell (p := ⟨Y, 4, none⟩) hsY (.slice B4 b1.bd.length d4)).setCell (p := ⟨Y, 5, none⟩) hsY (.int .i64 b1.at_)
            obtain ⟨Wn, hn⟩ : ∃ W, (((((W0.setCell ⟨Y, 0, none⟩ (.string (mkB b1.nm))).setCell ⟨Y, 1, none⟩ (.slice B1 b1.ps.length m1)).setCell ⟨Y, 2, none⟩ (.slice B2 b1.ts.length m2)).setCell ⟨Y, 3, none⟩ (.int .i64 b1.pr)).setCell ⟨Y, 4, none⟩ (.slice B4 b1.bd.length d4)).setCell ⟨Y, 5, none⟩ (.int .i64 b1.at_) = W := ⟨_, rfl⟩
            rw [hn] at g9 k1 k2 hwn
            rw [hn]
            clear hn fx lx
            replace HW := Lib.hid hwn
            replace HY := Lib.hid g9
            replace HX := Lib.hid ((k1 X (by omega)).trans HX.out)
            replace HEa := Lib.hid (And.intro (OwnP.keepO HEa.out.1 (fun g hg => k1 g (by have := hge g hg; omega))) (fun x hx => (HEa.out.2 x hx).keep fun k hk => ⟨k1 k (by have := hk.resolve_left (Nat.not_lt_zero k); omega), hk⟩))
            replace HMa := Lib.hid (show MeAt Wn (Iv la ha) _ a1 ∧ ha ≤ Wn.heap.size from ⟨HMa.out.1.keep fun k hk => ⟨k1 k (by have := hk.1; have := hk.2; omega), hk⟩, by rw [k2]; exact HMa.out.2⟩)
            replace HMb := Lib.hid (show MeAt Wn (Iv lb hb9) _ b1 ∧ hb9 ≤ Wn.heap.size from ⟨HMb.out.1.keep fun k hk => ⟨k1 k (by have := hk.1; have := hk.2; omega), hk⟩, by rw [k2]; exact HMb.out.2⟩)
            clear g9 k1 k2 hwn
            obtain ⟨W0, rfl⟩ : ∃ W, W = Wn := ⟨Wn, rfl⟩
            refine hK.out _ _ (HS.out _ HW.out) (fun hHeld => ?_)
            clear hK K
            try simp only [Act.put, List.setIfInBounds_toArray, List.set_cons_zero, List.set_cons_succ]
            refine wpAnyH_done (by kernel_rfl) ?_ _
            refine HKK.out _ _ ?_
            go_wp2_with fail
            go_meet
            exact ⟨X, Y, la, ha, lb, hb9, A1, n1, A2, n2, A4, c4, es, B1, m1, B2, m2, B4, d4, rfl, rfl, Lib.hid ⟨⟨hsX, hsY, hXY⟩, ⟨hla.1, hla.2, hab, hlb.2⟩, hxaX, hxaY, hxbX, hxbY⟩, HX, HY, HMa, HMb, HEa, HE1, Lib.hid hge, HW⟩
      · skip
        go_simp
        show K _ (W0.alloc (.cells #[.string ⟨#[]⟩, .slice none 0 0, .slice none 0 0, .int .i64 0, .slice none 0 0, .int .i64 0] 30))
        obtain ⟨Wn, hn⟩ : ∃ W, W0.alloc (.cells #[.string ⟨#[]⟩, .slice none 0 0, .slice none 0 0, .int .i64 0, .slice none 0 0, .int .i64 0] 30) = W := ⟨_, rfl⟩
        obtain ⟨X, hX⟩ : ∃ X, W0.heap.size = X := ⟨_, rfl⟩
        have hb : Below W0.heap.size W0 Wn := by rw [← hn]; exact (Below.refl _ _).alloc (Nat.le_refl _) _
        have hbs := hb.size
        have HX : Hid (Wn.heap[X]? = some (.cells #[.string ⟨#[]⟩, .slice none 0 0, .slice none 0 0, .int .i64 0, .slice none 0 0, .int .i64 0] 30 (0, 0))) := Lib.hid (by rw [← hn, ← hX]; exact heap_alloc_new W0 _)
        have hsX : wa.heap.size ≤ X := by rw [← hX]; exact HW.out.size
        rw [hn]
        try simp only [hX]
        clear hn hX
        replace HW := Lib.hid (HW.out.trans (hb.mono HW.out.size))
        clear hb hbs
        obtain ⟨W0, rfl⟩ : ∃ W, W = Wn := ⟨Wn, rfl⟩
        refine hK.out _ _ (HS.out _ HW.out) (fun hHeld => ?_)
        clear hK K
        try simp only [Act.put, List.setIfInBounds_toArray, List.set_cons_zero, List.set_cons_succ]
        refine wpAnyH_ready (rs := [1, 5]) (by kernel_rfl) (by simp) ?_
        refine AllReadyH.cons (by first | (simp only [List.getElem?_toArray, List.getElem?_cons_succ, List.getElem?_cons_zero]; rfl) | rfl) (fun K hK => ?_) (AllReadyH.cons (by first | (simp only [List.getElem?_toArray, List.getElem?_cons_succ, List.getElem?_cons_zero]; rfl) | rfl) (fun K hK => ?_) AllReadyH.nil)
        · skip
          go_simp
          refine (HOa.out W0 HW.out).mono ?_
          rintro e Wn ⟨v9, he, hma, hb, sa1, sa2, A4, c4, es, hv, he1, he2, he3⟩
          subst hv
          obtain ⟨A1, n1, A2, n2, A9, n9, hv2, -⟩ := id hma.ex
          simp only [Value.agg.injEq, Array.mk.injEq, List.cons.injEq] at hv2
          obtain ⟨-, rfl, rfl, -⟩ := hv2
          subst he
          dsimp only
          have hbs := hb.size
          obtain ⟨la, hl9⟩ : ∃ l, W0.heap.size = l := ⟨_, rfl⟩
          obtain ⟨ha, hh9⟩ : ∃ l, Wn.heap.size = l := ⟨_, rfl⟩
          have hla : wa.heap.size ≤ la ∧ la ≤ ha := ⟨by rw [← hl9]; exact HW.out.size, by rw [← hl9, ← hh9]; exact hbs⟩
          have hxaX : X < la ∨ ha ≤ X := .inl (by rw [← hl9]; exact lt_of_blk HX.out)
          replace HW := Lib.hid (HW.out.trans (hb.mono HW.out.size))
          replace HX := Lib.hid ((hb.block X (lt_of_blk HX.out)).trans HX.out)
          have HMa := Lib.hid (show MeAt Wn (Iv la ha) _ a1 ∧ ha ≤ Wn.heap.size from ⟨hma.keep fun k hk => ⟨rfl, by rw [hl9, hh9] at hk; exact hk.resolve_left (Nat.not_lt_zero k)⟩, Nat.le_of_eq hh9.symm⟩)
          have hge : ∀ g, (Value.slice A4 a1.bd.length c4).ownBlock = some g → la ≤ g ∧ g < ha := fun g hg => by have := World.ownsRow.lt he2 g hg; rw [hl9, hh9] at this; exact this
          rw [hl9] at he2
          rw [hl9, hh9] at he3
          have HEa := Lib.hid (And.intro he2 he3)
          have HE1 := Lib.hid he1
          clear hma he1 he2 he3 hb hbs hl9 hh9
          obtain ⟨W0, rfl⟩ : ∃ W, W = Wn := ⟨Wn, rfl⟩
          refine hK.out _ _ (HS.out _ HW.out) (fun hHeld => ?_)
          clear hK K
          try simp only [Act.put, List.setIfInBounds_toArray, List.set_cons_zero, List.set_cons_succ]
          refine wpAnyH_ready (rs := [3, 5]) (by kernel_rfl) (by simp) ?_
          refine AllReadyH.cons (by first | (simp only [List.getElem?_toArray, List.getElem?_cons_succ, List.getElem?_cons_zero]; rfl) | rfl) (fun K hK => ?_) (AllReadyH.cons (by first | (simp only [List.getElem?_toArray, List.getElem?_cons_succ, List.getElem?_cons_zero]; rfl) | rfl) (fun K hK => ?_) AllReadyH.nil)
          · skip
            go_simp
            refine (HOb.out W0 HW.out).mono ?_
            rintro e Wn ⟨v9, he, hma, hb, sb1, sb2, B4, d4, fs, hv, he1, he2, he3⟩
            subst hv
            obtain ⟨B1, m1, B2, m2, A9, n9, hv2, -⟩ := id hma.ex
            simp only [Value.agg.injEq, Array.mk.injEq, List.cons.injEq] at hv2
            obtain ⟨-, rfl, rfl, -⟩ := hv2
            subst he
            dsimp only
            have hbs := hb.size
            obtain ⟨lb, hl9⟩ : ∃ l, W0.heap.size = l := ⟨_, rfl⟩
            obtain ⟨hb9, hh9⟩ : ∃ l, Wn.heap.size = l := ⟨_, rfl⟩
            have hlb : wa.heap.size ≤ lb ∧ lb ≤ hb9 := ⟨by rw [← hl9]; exact HW.out.size, by rw [← hl9, ← hh9]; exact hbs⟩
            have hxbX : X < lb ∨ hb9 ≤ X := .inl (by rw [← hl9]; exact lt_of_blk HX.out)
            have hab : ha ≤ lb := by rw [← hl9]; exact HMa.out.2
            replace HW := Lib.hid (HW.out.trans (hb.mono HW.out.size))
            replace HX := Lib.hid ((hb.block X (lt_of_blk HX.out)).trans HX.out)
            replace HEa := Lib.hid (And.intro (OwnP.below HEa.out.1 hb) (fun x hx => (HEa.out.2 x hx).keep fun k hk => ⟨hb.block k (Nat.lt_of_lt_of_le (hk.resolve_left (Nat.not_lt_zero k)).2.1 HMa.out.2), hk⟩))
            replace HMa := Lib.hid (show MeAt Wn (Iv la ha) _ a1 ∧ ha ≤ Wn.heap.size from ⟨HMa.out.1.keep fun k hk => ⟨hb.block k (Nat.lt_of_lt_of_le hk.2 HMa.out.2), hk⟩, Nat.le_trans HMa.out.2 hbs⟩)
            have HMb := Lib.hid (show MeAt Wn (Iv lb hb9) _ b1 ∧ hb9 ≤ Wn.heap.size from ⟨hma.keep fun k hk => ⟨rfl, by rw [hl9, hh9] at hk; exact hk.resolve_left (Nat.not_lt_zero k)⟩, Nat.le_of_eq hh9.symm⟩)
            clear hma he1 he2 he3 hb hbs hl9 hh9
            obtain ⟨W0, rfl⟩ : ∃ W, W = Wn := ⟨Wn, rfl⟩
            refine hK.out _ _ (HS.out _ HW.out) (fun hHeld => ?_)
            clear hK K
            try simp only [Act.put, List.setIfInBounds_toArray, List.set_cons_zero, List.set_cons_succ]
            refine wpAnyH_ready (rs := [5]) (by kernel_rfl) (by simp) ?_
            refine AllReadyH.cons (by first | (simp only [List.getElem?_toArray, List.getElem?_cons_succ, List.getElem?_cons_zero]; rfl) | rfl) (fun K hK => ?_) AllReadyH.nil
            go_simp
            show K _ (W0.alloc (.cells #[.string ⟨#[]⟩, .slice none 0 0, .slice none 0 0, .int .i64 0, .slice none 0 0, .int .i64 0] 30))
            obtain ⟨Wn, hn⟩ : ∃ W, W0.alloc (.cells #[.string ⟨#[]⟩, .slice none 0 0, .slice none 0 0, .int .i64 0, .slice none 0 0, .int .i64 0] 30) = W := ⟨_, rfl⟩
            obtain ⟨Y, hY⟩ : ∃ X, W0.heap.size = X := ⟨_, rfl⟩
            have hb : Below W0.heap.size W0 Wn := by rw [← hn]; exact (Below.refl _ _).alloc (Nat.le_refl _) _
            have hbs := hb.size
            have HY : Hid (Wn.heap[Y]? = some (.cells #[.string ⟨#[]⟩, .slice none 0 0, .slice none 0 0, .int .i64 0, .slice none 0 0, .int .i64 0] 30 (0, 0))) := Lib.hid (by rw [← hn, ← hY]; exact heap_alloc_new W0 _)
            have hsY : wa.heap.size ≤ Y := by rw [← hY]; exact HW.out.size
            have hxaY : Y < la ∨ ha ≤ Y := .inr (by rw [← hY]; exact HMa.out.2)
            have hxbY : Y < lb ∨ hb9 ≤ Y := .inr (by rw [← hY]; exact HMb.out.2)
            have hXY : X ≠ Y := by have := lt_of_blk HX.out; omega
            rw [hn]
            try simp only [hY]
            clear hn hY
            replace HW := Lib.hid (HW.out.trans (hb.mono HW.out.size))
            replace HX := Lib.hid ((hb.block X (lt_of_blk HX.out)).trans HX.out)
            replace HEa := Lib.hid (And.intro (OwnP.below HEa.out.1 hb) (fun x hx => (HEa.out.2 x hx).keep fun k hk => ⟨hb.block k (Nat.lt_of_lt_of_le (hk.resolve_left (Nat.not_lt_zero k)).2.1 HMa.out.2), hk⟩))
            replace HMa := Lib.hid (show MeAt Wn (Iv la ha) _ a1 ∧ ha ≤ Wn.heap.size from ⟨HMa.out.1.keep fun k hk => ⟨hb.block k (Nat.lt_of_lt_of_le hk.2 HMa.out.2), hk⟩, Nat.le_trans HMa.out.2 hbs⟩)
            replace HMb := Lib.hid (show MeAt Wn (Iv lb hb9) _ b1 ∧ hb9 ≤ Wn.heap.size from ⟨HMb.out.1.keep fun k hk => ⟨hb.block k (Nat.lt_of_lt_of_le hk.2 HMb.out.2), hk⟩, Nat.le_trans HMb.out.2 hbs⟩)
            clear hb hbs
            obtain ⟨W0, rfl⟩ : ∃ W, W = Wn := ⟨Wn, rfl⟩
            refine hK.out _ _ (HS.out _ HW.out) (fun hHeld => ?_)
            clear hK K
            try simp only [Act.put, List.setIfInBounds_toArray, List.set_cons_zero, List.set_cons_succ]
            refine wpAnyH_ready (rs := [6]) (by kernel_rfl) (by simp) ?_
            refine AllReadyH.cons (by first | (simp only [List.getElem?_toArray, List.getElem?_cons_succ, List.getElem?_cons_zero]; rfl) | rfl) (fun K hK => ?_) AllReadyH.nil
            have fx := cells6T HX.out
            have lx := lt_of_blk HX.out
            go_simp
            have g9 := set6T HX.out (.string (mkB a1.nm)) (.slice A1 a1.ps.length n1) (.slice A2 a1.ts.length n2) (.int .i64 a1.pr) (.slice A4 a1.bd.length c4) (.int .i64 a1.at_)
            obtain ⟨k1, k2⟩ := six_setT (w := W0) (C := X) (.string (mkB a1.nm)) (.slice A1 a1.ps.length n1) (.slice A2 a1.ts.length n2) (.int .i64 a1.pr) (.slice A4 a1.bd.length c4) (.int .i64 a1.at_)
            have hwn := ((((((HW.out).setCell (p := ⟨X, 0, none⟩) hsX (.string (mkB a1.nm))).setCell (p := ⟨X, 1, none⟩) hsX (.slice A1 a1.ps.length n1)).setCell (p := ⟨X, 2, none⟩) hsX (.slice A2 a1.ts.length n2)).setCell (p := ⟨X, 3, none⟩) hsX (.int .i64 a1.pr)).setCell (p := ⟨X, 4, none⟩) hsX (.slice A4 a1.bd.length c4)).setCell (p := ⟨X, 5, none⟩) hsX (.int .i64 a1.at_)
            obtain ⟨Wn, hn⟩ : ∃ W, (((((W0.setCell ⟨X, 0, none⟩ (.string (mkB a1.nm))).setCell ⟨X, 1, none⟩ (.slice A1 a1.ps.length n1)).setCell ⟨X, 2, none⟩ (.slice A2 a1.ts.length n2)).setCell ⟨X, 3, none⟩ (.int .i64 a1.pr)).setCell ⟨X, 4, none⟩ (.slice A4 a1.bd.length c4)).setCell ⟨X, 5, none⟩ (.int .i64 a1.at_) = W := ⟨_, rfl⟩
            rw [hn] at g9 k1 k2 hwn
            rw [hn]
            clear hn fx lx
            replace HW := Lib.hid hwn
            replace HX := Lib.hid g9
            replace HY := Lib.hid ((k1 Y (by omega)).trans HY.out)
            replace HEa := Lib.hid (And.intro (OwnP.keepO HEa.out.1 (fun g hg => k1 g (by have := hge g hg; omega))) (fun x hx => (HEa.out.2 x hx).keep fun k hk => ⟨k1 k (by have := hk.resolve_left (Nat.not_lt_zero k); omega), hk⟩))
            replace HMa := Lib.hid (show MeAt Wn (Iv la ha) _ a1 ∧ ha ≤ Wn.heap.size from ⟨HMa.out.1.keep fun k hk => ⟨k1 k (by have := hk.1; have := hk.2; omega), hk⟩, by rw [k2]; exact HMa.out.2⟩)
            replace HMb := Lib.hid (show MeAt Wn (Iv lb hb9) _ b1 ∧ hb9 ≤ Wn.heap.size from ⟨HMb.out.1.keep fun k hk => ⟨k1 k (by have := hk.1; have := hk.2; omega), hk⟩, by rw [k2]; exact HMb.out.2⟩)
            clear g9 k1 k2 hwn
            obtain ⟨W0, rfl⟩ : ∃ W, W = Wn := ⟨Wn, rfl⟩
            refine hK.out _ _ (HS.out _ HW.out) (fun hHeld => ?_)
            clear hK K
            try simp only [Act.put, List.setIfInBounds_toArray, List.set_cons_zero, List.set_cons_succ]
            refine wpAnyH_ready (rs := [7]) (by kernel_rfl) (by simp) ?_
            refine AllReadyH.cons (by first | (simp only [List.getElem?_toArray, List.getElem?_cons_succ, List.getElem?_cons_zero]; rfl) | rfl) (fun K hK => ?_) AllReadyH.nil
            have fx := cells6T HY.out
            have lx := lt_of_blk HY.out
            go_simp
            have g9 := set6T HY.out (.string (mkB b1.nm)) (.slice B1 b1.ps.length m1) (.slice B2 b1.ts.length m2) (.int .i64 b1.pr) (.slice B4 b1.bd.length d4) (.int .i64 b1.at_)
            obtain ⟨k1, k2⟩ := six_setT (w := W0) (C := Y) (.string (mkB b1.nm)) (.slice B1 b1.ps.length m1) (.slice B2 b1.ts.length m2) (.int .i64 b1.pr) (.slice B4 b1.bd.length d4) (.int .i64 b1.at_)
            have hwn := ((((((HW.out).setCell (p := ⟨Y, 0, none⟩) hsY (.string (mkB b1.nm))).setCell (p := ⟨Y, 1, none⟩) hsY (.slice B1 b1.ps.length m1)).setCell (p := ⟨Y, 2, none⟩) hsY (.slice B2 b1.ts.length m2)).setCell (p := ⟨Y, 3, none⟩) hsY (.int .i64 b1.pr)).setCell (p := ⟨Y, 4, none⟩) hsY (.slice B4 b1.bd.length d4)).setCell (p := ⟨Y, 5, none⟩) hsY (.int .i64 b1.at_)
            obtain ⟨Wn, hn⟩ : ∃ W, (((((W0.setCell ⟨Y, 0, none⟩ (.string (mkB b1.nm))).setCell ⟨Y, 1, none⟩ (.slice B1 b1.ps.length m1)).setCell ⟨Y, 2, none⟩ (.slice B2 b1.ts.length m2)).setCell ⟨Y, 3, none⟩ (.int .i64 b1.pr)).setCell ⟨Y, 4, none⟩ (.slice B4 b1.bd.length d4)).setCell ⟨Y, 5, none⟩ (.int .i64 b1.at_) = W := ⟨_, rfl⟩
            rw [hn] at g9 k1 k2 hwn
            rw [hn]
            clear hn fx lx
            replace HW := Lib.hid hwn
            replace HY := Lib.hid g9
            replace HX := Lib.hid ((k1 X (by omega)).trans HX.out)
            replace HEa := Lib.hid (And.intro (OwnP.keepO HEa.out.1 (fun g hg => k1 g (by have := hge g hg; omega))) (fun x hx => (HEa.out.2 x hx).keep fun k hk => ⟨k1 k (by have := hk.resolve_left (Nat.not_lt_zero k); omega), hk⟩))
            replace HMa := Lib.hid (show MeAt Wn (Iv la ha) _ a1 ∧ ha ≤ Wn.heap.size from ⟨HMa.out.1.keep fun k hk => ⟨k1 k (by have := hk.1; have := hk.2; omega), hk⟩, by rw [k2]; exact HMa.out.2⟩)
            replace HMb := Lib.hid (show MeAt Wn (Iv lb hb9) _ b1 ∧ hb9 ≤ Wn.heap.size from ⟨HMb.out.1.keep fun k hk => ⟨k1 k (by have := hk.1; have := hk.2; omega), hk⟩, by rw [k2]; exact HMb.out.2⟩)
            clear g9 k1 k2 hwn
            obtain ⟨W0, rfl⟩ : ∃ W, W = Wn := ⟨Wn, rfl⟩
            refine hK.out _ _ (HS.out _ HW.out) (fun hHeld => ?_)
            clear hK K
            try simp only [Act.put, List.setIfInBounds_toArray, List.set_cons_zero, List.set_cons_succ]
            refine wpAnyH_done (by kernel_rfl) ?_ _
            refine HKK.out _ _ ?_
            go_wp2_with fail
            go_meet
            exact ⟨X, Y, la, ha, lb, hb9, A1, n1, A2, n2, A4, c4, es, B1, m1, B2, m2, B4, d4, rfl, rfl, Lib.hid ⟨⟨hsX, hsY, hXY⟩, ⟨hla.1, hla.2, hab, hlb.2⟩, hxaX, hxaY, hxbX, hxbY⟩, HX, HY, HMa, HMb, HEa, HE1, Lib.hid hge, HW⟩
          · skip
            go_simp
            show K _ (W0.alloc (.cells #[.string ⟨#[]⟩, .slice none 0 0, .slice none 0 0, .int .i64 0, .slice none 0 0, .int .i64 0] 30))
            obtain ⟨Wn, hn⟩ : ∃ W, W0.alloc (.cells #[.string ⟨#[]⟩, .slice none 0 0, .slice none 0 0, .int .i64 0, .slice none 0 0, .int .i64 0] 30) = W := ⟨_, rfl⟩
            obtain ⟨Y, hY⟩ : ∃ X, W0.heap.size = X := ⟨_, rfl⟩
            have hb : Below W0.heap.size W0 Wn := by rw [← hn]; exact (Below.refl _ _).alloc (Nat.le_refl _) _
            have hbs := hb.size
            have HY : Hid (Wn.heap[Y]? = some (.cells #[.string ⟨#[]⟩, .slice none 0 0, .slice none 0 0, .int .i64 0, .slice none 0 0, .int .i64 0] 30 (0, 0))) := Lib.hid (by rw [← hn, ← hY]; exact heap_alloc_new W0 _)
            have hsY : wa.heap.size ≤ Y := by rw [← hY]; exact HW.out.size
            have hxaY : Y < la ∨ ha ≤ Y := .inr (by rw [← hY]; exact HMa.out.2)
            have hXY : X ≠ Y := by have := lt_of_blk HX.out; omega
            rw [hn]
            try simp only [hY]
            clear hn hY
            replace HW := Lib.hid (HW.out.trans (hb.mono HW.out.size))
            replace HX := Lib.hid ((hb.block X (lt_of_blk HX.out)).trans HX.out)
            replace HEa := Lib.hid (And.intro (OwnP.below HEa.out.1 hb) (fun x hx => (HEa.out.2 x hx).keep fun k hk => ⟨hb.block k (Nat.lt_of_lt_of_le (hk.resolve_left (Nat.not_lt_zero k)).2.1 HMa.out.2), hk⟩))
            replace HMa := Lib.hid (show MeAt Wn (Iv la ha) _ a1 ∧ ha ≤ Wn.heap.size from ⟨HMa.out.1.keep fun k hk => ⟨hb.block k (Nat.lt_of_lt_of_le hk.2 HMa.out.2), hk⟩, Nat.le_trans HMa.out.2 hbs⟩)
            clear hb hbs
            obtain ⟨W0, rfl⟩ : ∃ W, W = Wn := ⟨Wn, rfl⟩
            refine hK.out _ _ (HS.out _ HW.out) (fun hHeld => ?_)
            clear hK K
            try simp only [Act.put, List.setIfInBounds_toArray, List.set_cons_zero, List.set_cons_succ]
            refine wpAnyH_ready (rs := [3]) (by kernel_rfl) (by simp) ?_
            refine AllReadyH.cons (by first | (simp only [List.getElem?_toArray, List.getElem?_cons_succ, List.getElem?_cons_zero]; rfl) | rfl) (fun K hK => ?_) AllReadyH.nil
            go_simp
            refine (HOb.out W0 HW.out).mono ?_
            rintro e Wn ⟨v9, he, hma, hb, sb1, sb2, B4, d4, fs, hv, he1, he2, he3⟩
            subst hv
            obtain ⟨B1, m1, B2, m2, A9, n9, hv2, -⟩ := id hma.ex
            simp only [Value.agg.injEq, Array.mk.injEq, List.cons.injEq] at hv2
            obtain ⟨-, rfl, rfl, -⟩ := hv2
            subst he
            dsimp only
            have hbs := hb.size
            obtain ⟨lb, hl9⟩ : ∃ l, W0.heap.size = l := ⟨_, rfl⟩
            obtain ⟨hb9, hh9⟩ : ∃ l, Wn.heap.size = l := ⟨_, rfl⟩
            have hlb : wa.heap.size ≤ lb ∧ lb ≤ hb9 := ⟨by rw [← hl9]; exact HW.out.size, by rw [← hl9, ← hh9]; exact hbs⟩
            have hxbX : X < lb ∨ hb9 ≤ X := .inl (by rw [← hl9]; exact lt_of_blk HX.out)
            have hxbY : Y < lb ∨ hb9 ≤ Y := .inl (by rw [← hl9]; exact lt_of_blk HY.out)
            have hab : ha ≤ lb := by rw [← hl9]; exact HMa.out.2
            replace HW := Lib.hid (HW.out.trans (hb.mono HW.out.size))
            replace HX := Lib.hid ((hb.block X (lt_of_blk HX.out)).trans HX.out)
            replace HY := Lib.hid ((hb.block Y (lt_of_blk HY.out)).trans HY.out)
            replace HEa := Lib.hid (And.intro (OwnP.below HEa.out.1 hb) (fun x hx => (HEa.out.2 x hx).keep fun k hk => ⟨hb.block k (Nat.lt_of_lt_of_le (hk.resolve_left (Nat.not_lt_zero k)).2.1 HMa.out.2), hk⟩))
            replace HMa := Lib.hid (show MeAt Wn (Iv la ha) _ a1 ∧ ha ≤ Wn.heap.size from ⟨HMa.out.1.keep fun k hk => ⟨hb.block k (Nat.lt_of_lt_of_le hk.2 HMa.out.2), hk⟩, Nat.le_trans HMa.out.2 hbs⟩)
            have HMb := Lib.hid (show MeAt Wn (Iv lb hb9) _ b1 ∧ hb9 ≤ Wn.heap.size from ⟨hma.keep fun k hk => ⟨rfl, by rw [hl9, hh9] at hk; exact hk.resolve_left (Nat.not_lt_zero k)⟩, Nat.le_of_eq hh9.symm⟩)
            clear hma he1 he2 he3 hb hbs hl9 hh9
            obtain ⟨W0, rfl⟩ : ∃ W, W = Wn := ⟨Wn, rfl⟩
            refine hK.out _ _ (HS.out _ HW.out) (fun hHeld => ?_)
            clear hK K
            try simp only [Act.put, List.setIfInBounds_toArray, List.set_cons_zero, List.set_cons_succ]
            refine wpAnyH_ready (rs := [6]) (by kernel_rfl) (by simp) ?_
            refine AllReadyH.cons (by first | (simp only [List.getElem?_toArray, List.getElem?_cons_succ, List.getElem?_cons_zero]; rfl) | rfl) (fun K hK => ?_) AllReadyH.nil
            have fx := cells6T HX.out
            have lx := lt_of_blk HX.out
            go_simp
            have g9 := set6T HX.out (.string (mkB a1.nm)) (.slice A1 a1.ps.length n1) (.slice A2 a1.ts.length n2) (.int .i64 a1.pr) (.slice A4 a1.bd.length c4) (.int .i64 a1.at_)
            obtain ⟨k1, k2⟩ := six_setT (w := W0) (C := X) (.string (mkB a1.nm)) (.slice A1 a1.ps.length n1) (.slice A2 a1.ts.length n2) (.int .i64 a1.pr) (.slice A4 a1.bd.length c4) (.int .i64 a1.at_)
            have hwn := ((((((HW.out).setCell (p := ⟨X, 0, none⟩) hsX (.string (mkB a1.nm))).setCell (p := ⟨X, 1, none⟩) hsX (.slice A1 a1.ps.length n1)).setCell (p := ⟨X, 2, none⟩) hsX (.slice A2 a1.ts.length n2)).setCell (p := ⟨X, 3, none⟩) hsX (.int .i64 a1.pr)).setCell (p := ⟨X, 4, none⟩) hsX (.slice A4 a1.bd.length c4)).setCell (p := ⟨X, 5, none⟩) hsX (.int .i64 a1.at_)
            obtain ⟨Wn, hn⟩ : ∃ W, (((((W0.setCell ⟨X, 0, none⟩ (.string (mkB a1.nm))).setCell ⟨X, 1, none⟩ (.slice A1 a1.ps.length n1)).setCell ⟨X, 2, none⟩ (.slice A2 a1.ts.length n2)).setCell ⟨X, 3, none⟩ (.int .i64 a1.pr)).setCell ⟨X, 4, none⟩ (.slice A4 a1.bd.length c4)).setCell ⟨X, 5, none⟩ (.int .i64 a1.at_) = W := ⟨_, rfl⟩
            rw [hn] at g9 k1 k2 hwn
            rw [hn]
            clear hn fx lx
            replace HW := Lib.hid hwn
            replace HX := Lib.hid g9
            replace HY := Lib.hid ((k1 Y (by omega)).trans HY.out)
            replace HEa := Lib.hid (And.intro (OwnP.keepO HEa.out.1 (fun g hg => k1 g (by have := hge g hg; omega))) (fun x hx => (HEa.out.2 x hx).keep fun k hk => ⟨k1 k (by have := hk.resolve_left (Nat.not_lt_zero k); omega), hk⟩))
            replace HMa := Lib.hid (show MeAt Wn (Iv la ha) _ a1 ∧ ha ≤ Wn.heap.size from ⟨HMa.out.1.keep fun k hk => ⟨k1 k (by have := hk.1; have := hk.2; omega), hk⟩, by rw [k2]; exact HMa.out.2⟩)
            replace HMb := Lib.hid (show MeAt Wn (Iv lb hb9) _ b1 ∧ hb9 ≤ Wn.heap.size from ⟨HMb.out.1.keep fun k hk => ⟨k1 k (by have := hk.1; have := hk.2; omega), hk⟩, by rw [k2]; exact HMb.out.2⟩)
            clear g9 k1 k2 hwn
            obtain ⟨W0, rfl⟩ : ∃ W, W = Wn := ⟨Wn, rfl⟩
            refine hK.out _ _ (HS.out _ HW.out) (fun hHeld => ?_)
            clear hK K
            try simp only [Act.put, List.setIfInBounds_toArray, List.set_cons_zero, List.set_cons_succ]
            refine wpAnyH_ready (rs := [7]) (by kernel_rfl) (by simp) ?_
            refine AllReadyH.cons (by first | (simp only [List.getElem?_toArray, List.getElem?_cons_succ, List.getElem?_cons_zero]; rfl) | rfl) (fun K hK => ?_) AllReadyH.nil
            have fx := cells6T HY.out
            have lx := lt_of_blk HY.out
            go_simp
            have g9 := set6T HY.out (.string (mkB b1.nm)) (.slice B1 b1.ps.length m1) (.slice B2 b1.ts.length m2) (.int .i64 b1.pr) (.slice B4 b1.bd.length d4) (.int .i64 b1.at_)
            obtain ⟨k1, k2⟩ := six_setT (w := W0) (C := Y) (.string (mkB b1.nm)) (.slice B1 b1.ps.length m1) (.slice B2 b1.ts.length m2) (.int .i64 b1.pr) (.slice B4 b1.bd.length d4) (.int .i64 b1.at_)
            have hwn := ((((((HW.out).setCell (p := ⟨Y, 0, none⟩) hsY (.string (mkB b1.nm))).setCell (p := ⟨Y, 1, none⟩) hsY (.slice B1 b1.ps.length m1)).setCell (p := ⟨Y, 2, none⟩) hsY (.slice B2 b1.ts.length m2)).setCell (p := ⟨Y, 3, none⟩) hsY (.int .i64 b1.pr)).setCell (p := ⟨Y, 4, none⟩) hsY (.slice B4 b1.bd.length d4)).setCell (p := ⟨Y, 5, none⟩) hsY (.int .i64 b1.at_)
            obtain ⟨Wn, hn⟩ : ∃ W, (((((W0.setCell ⟨Y, 0, none⟩ (.string (mkB b1.nm))).setCell ⟨Y, 1, none⟩ (.slice B1 b1.ps.length m1)).setCell ⟨Y, 2, none⟩ (.slice B2 b1.ts.length m2)).setCell ⟨Y, 3, none⟩ (.int .i64 b1.pr)).setCell ⟨Y, 4, none⟩ (.slice B4 b1.bd.length d4)).setCell ⟨Y, 5, none⟩ (.int .i64 b1.at_) = W := ⟨_, rfl⟩
            rw [hn] at g9 k1 k2 hwn
            rw [hn]
            clear hn fx lx
            replace HW := Lib.hid hwn
            replace HY := Lib.hid g9
            replace HX := Lib.hid ((k1 X (by omega)).trans HX.out)
            replace HEa := Lib.hid (And.intro (OwnP.keepO HEa.out.1 (fun g hg => k1 g (by have := hge g hg; omega))) (fun x hx => (HEa.out.2 x hx).keep fun k hk => ⟨k1 k (by have := hk.resolve_left (Nat.not_lt_zero k); omega), hk⟩))
            replace HMa := Lib.hid (show MeAt Wn (Iv la ha) _ a1 ∧ ha ≤ Wn.heap.size from ⟨HMa.out.1.keep fun k hk => ⟨k1 k (by have := hk.1; have := hk.2; omega), hk⟩, by rw [k2]; exact HMa.out.2⟩)
            replace HMb := Lib.hid (show MeAt Wn (Iv lb hb9) _ b1 ∧ hb9 ≤ Wn.heap.size from ⟨HMb.out.1.keep fun k hk => ⟨k1 k (by have := hk.1; have := hk.2; omega), hk⟩, by rw [k2]; exact HMb.out.2⟩)
            clear g9 k1 k2 hwn
            obtain ⟨W0, rfl⟩ : ∃ W, W = Wn := ⟨Wn, rfl⟩
            refine hK.out _ _ (HS.out _ HW.out) (fun hHeld => ?_)
            clear hK K
            try simp only [Act.put, List.setIfInBounds_toArray, List.set_cons_zero, List.set_cons_succ]
            refine wpAnyH_done (by kernel_rfl) ?_ _
            refine HKK.out _ _ ?_
            go_wp2_with fail
            go_meet
            exact ⟨X, Y, la, ha, lb, hb9, A1, n1, A2, n2, A4, c4, es, B1, m1, B2, m2, B4, d4, rfl, rfl, Lib.hid ⟨⟨hsX, hsY, hXY⟩, ⟨hla.1, hla.2, hab, hlb.2⟩, hxaX, hxaY, hxbX, hxbY⟩, HX, HY, HMa, HMb, HEa, HE1, Lib.hid hge, HW⟩
        · skip
          go_simp
          show K _ (W0.alloc (.cells #[.string ⟨#[]⟩, .slice none 0 0, .slice none 0 0, .int .i64 0, .slice none 0 0, .int .i64 0] 30))
          obtain ⟨Wn, hn⟩ : ∃ W, W0.alloc (.cells #[.string ⟨#[]⟩, .slice none 0 0, .slice none 0 0, .int .i64 0, .slice none 0 0, .int .i64 0] 30) = W := ⟨_, rfl⟩
          obtain ⟨Y, hY⟩ : ∃ X, W0.heap.size = X := ⟨_, rfl⟩
          have hb : Below W0.heap.size W0 Wn := by rw [← hn]; exact (Below.refl _ _).alloc (Nat.le_refl _) _
          have hbs := hb.size
          have HY : Hid (Wn.heap[Y]? = some (.cells #[.string ⟨#[]⟩, .slice none 0 0, .slice none 0 0, .int .i64 0, .slice none 0 0, .int .i64 0] 30 (0, 0))) := Lib.hid (by rw [← hn, ← hY]; exact heap_alloc_new W0 _)
          have hsY : wa.heap.size ≤ Y := by rw [← hY]; exact HW.out.size
          have hXY : X ≠ Y := by have := lt_of_blk HX.out; omega
          rw [hn]
          try simp only [hY]
          clear hn hY
          replace HW := Lib.hid (HW.out.trans (hb.mono HW.out.size))
          replace HX := Lib.hid ((hb.block X (lt_of_blk HX.out)).trans HX.out)
          clear hb hbs
          obtain ⟨W0, rfl⟩ : ∃ W, W = Wn := ⟨Wn, rfl⟩
          refine hK.out _ _ (HS.out _ HW.out) (fun hHeld => ?_)
          clear hK K
          try simp only [Act.put, List.setIfInBounds_toArray, List.set_cons_zero, List.set_cons_succ]
          refine wpAnyH_ready (rs := [1]) (by kernel_rfl) (by simp) ?_
          refine AllReadyH.cons (by first | (simp only [List.getElem?_toArray, List.getElem?_cons_succ, List.getElem?_cons_zero]; rfl) | rfl) (fun K hK => ?_) AllReadyH.nil
          go_simp
          refine (HOa.out W0 HW.out).mono ?_
          rintro e Wn ⟨v9, he, hma, hb, sa1, sa2, A4, c4, es, hv, he1, he2, he3⟩
          subst hv
          obtain ⟨A1, n1, A2, n2, A9, n9, hv2, -⟩ := id hma.ex
          simp only [Value.agg.injEq, Array.mk.injEq, List.cons.injEq] at hv2
          obtain ⟨-, rfl, rfl, -⟩ := hv2
          subst he
          dsimp only
          have hbs := hb.size
          obtain ⟨la, hl9⟩ : ∃ l, W0.heap.size = l := ⟨_, rfl⟩
          obtain ⟨ha, hh9⟩ : ∃ l, Wn.heap.size = l := ⟨_, rfl⟩
          have hla : wa.heap.size ≤ la ∧ la ≤ ha := ⟨by rw [← hl9]; exact HW.out.size, by rw [← hl9, ← hh9]; exact hbs⟩
          have hxaX : X < la ∨ ha ≤ X := .inl (by rw [← hl9]; exact lt_of_blk HX.out)
          have hxaY : Y < la ∨ ha ≤ Y := .inl (by rw [← hl9]; exact lt_of_blk HY.out)
          replace HW := Lib.hid (HW.out.trans (hb.mono HW.out.size))
          replace HX := Lib.hid ((hb.block X (lt_of_blk HX.out)).trans HX.out)
          replace HY := Lib.hid ((hb.block Y (lt_of_blk HY.out)).trans HY.out)
          have HMa := Lib.hid (show MeAt Wn (Iv la ha) _ a1 ∧ ha ≤ Wn.heap.size from ⟨hma.keep fun k hk => ⟨rfl, by rw [hl9, hh9] at hk; exact hk.resolve_left (Nat.not_lt_zero k)⟩, Nat.le_of_eq hh9.symm⟩)
          have hge : ∀ g, (Value.slice A4 a1.bd.length c4).ownBlock = some g → la ≤ g ∧ g < ha := fun g hg => by have := World.ownsRow.lt he2 g hg; rw [hl9, hh9] at this; exact this
          rw [hl9] at he2
          rw [hl9, hh9] at he3
          have HEa := Lib.hid (And.intro he2 he3)
          have HE1 := Lib.hid he1
          clear hma he1 he2 he3 hb hbs hl9 hh9
          obtain ⟨W0, rfl⟩ : ∃ W, W = Wn := ⟨Wn, rfl⟩
          refine hK.out _ _ (HS.out _ HW.out) (fun hHeld => ?_)
          clear hK K
          try simp only [Act.put, List.setIfInBounds_toArray, List.set_cons_zero, List.set_cons_succ]
          refine wpAnyH_ready (rs := [3]) (by kernel_rfl) (by simp) ?_
          refine AllReadyH.cons (by first | (simp only [List.getElem?_toArray, List.getElem?_cons_succ, List.getElem?_cons_zero]; rfl) | rfl) (fun K hK => ?_) AllReadyH.nil
          go_simp
          refine (HOb.out W0 HW.out).mono ?_
          rintro e Wn ⟨v9, he, hma, hb, sb1, sb2, B4, d4, fs, hv, he1, he2, he3⟩
          subst hv
          obtain ⟨B1, m1, B2, m2, A9, n9, hv2, -⟩ := id hma.ex
          simp only [Value.agg.injEq, Array.mk.injEq, List.cons.injEq] at hv2
          obtain ⟨-, rfl, rfl, -⟩ := hv2
          subst he
          dsimp only
          have hbs := hb.size
          obtain ⟨lb, hl9⟩ : ∃ l, W0.heap.size = l := ⟨_, rfl⟩
          obtain ⟨hb9, hh9⟩ : ∃ l, Wn.heap.size = l := ⟨_, rfl⟩
          have hlb : wa.heap.size ≤ lb ∧ lb ≤ hb9 := ⟨by rw [← hl9]; exact HW.out.size, by rw [← hl9, ← hh9]; exact hbs⟩
          have hxbX : X < lb ∨ hb9 ≤ X := .inl (by rw [← hl9]; exact lt_of_blk HX.out)
          have hxbY : Y < lb ∨ hb9 ≤ Y := .inl (by rw [← hl9]; exact lt_of_blk HY.out)
          have hab : ha ≤ lb := by rw [← hl9]; exact HMa.out.2
          replace HW := Lib.hid (HW.out.trans (hb.mono HW.out.size))
          replace HX := Lib.hid ((hb.block X (lt_of_blk HX.out)).trans HX.out)
          replace HY := Lib.hid ((hb.block Y (lt_of_blk HY.out)).trans HY.out)
          replace HEa := Lib.hid (And.intro (OwnP.below HEa.out.1 hb) (fun x hx => (HEa.out.2 x hx).keep fun k hk => ⟨hb.block k (Nat.lt_of_lt_of_le (hk.resolve_left (Nat.not_lt_zero k)).2.1 HMa.out.2), hk⟩))
          replace HMa := Lib.hid (show MeAt Wn (Iv la ha) _ a1 ∧ ha ≤ Wn.heap.size from ⟨HMa.out.1.keep fun k hk => ⟨hb.block k (Nat.lt_of_lt_of_le hk.2 HMa.out.2), hk⟩, Nat.le_trans HMa.out.2 hbs⟩)
          have HMb := Lib.hid (show MeAt Wn (Iv lb hb9) _ b1 ∧ hb9 ≤ Wn.heap.size from ⟨hma.keep fun k hk => ⟨rfl, by rw [hl9, hh9] at hk; exact hk.resolve_left (Nat.not_lt_zero k)⟩, Nat.le_of_eq hh9.symm⟩)
          clear hma he1 he2 he3 hb hbs hl9 hh9
          obtain ⟨W0, rfl⟩ : ∃ W, W = Wn := ⟨Wn, rfl⟩
          refine hK.out _ _ (HS.out _ HW.out) (fun hHeld => ?_)
          clear hK K
          try simp only [Act.put, List.setIfInBounds_toArray, List.set_cons_zero, List.set_cons_succ]
          refine wpAnyH_ready (rs := [6]) (by kernel_rfl) (by simp) ?_
          refine AllReadyH.cons (by first | (simp only [List.getElem?_toArray, List.getElem?_cons_succ, List.getElem?_cons_zero]; rfl) | rfl) (fun K hK => ?_) AllReadyH.nil
          have fx := cells6T HX.out
          have lx := lt_of_blk HX.out
          go_simp
          have g9 := set6T HX.out (.string (mkB a1.nm)) (.slice A1 a1.ps.length n1) (.slice A2 a1.ts.length n2) (.int .i64 a1.pr) (.slice A4 a1.bd.length c4) (.int .i64 a1.at_)
          obtain ⟨k1, k2⟩ := six_setT (w := W0) (C := X) (.string (mkB a1.nm)) (.slice A1 a1.ps.length n1) (.slice A2 a1.ts.length n2) (.int .i64 a1.pr) (.slice A4 a1.bd.length c4) (.int .i64 a1.at_)
          have hwn := ((((((HW.out).setCell (p := ⟨X, 0, none⟩) hsX (.string (mkB a1.nm))).setCell (p := ⟨X, 1, none⟩) hsX (.slice A1 a1.ps.length n1)).setCell (p := ⟨X, 2, none⟩) hsX (.slice A2 a1.ts.length n2)).setCell (p := ⟨X, 3, none⟩) hsX (.int .i64 a1.pr)).setCell (p := ⟨X, 4, none⟩) hsX (.slice A4 a1.bd.length c4)).setCell (p := ⟨X, 5, none⟩) hsX (.int .i64 a1.at_)
          obtain ⟨Wn, hn⟩ : ∃ W, (((((W0.setCell ⟨X, 0, none⟩ (.string (mkB a1.nm))).setCell ⟨X, 1, none⟩ (.slice A1 a1.ps.length n1)).setCell ⟨X, 2, none⟩ (.slice A2 a1.ts.length n2)).setCell ⟨X, 3, none⟩ (.int .i64 a1.pr)).setCell ⟨X, 4, none⟩ (.slice A4 a1.bd.length c4)).setCell ⟨X, 5, none⟩ (.int .i64 a1.at_) = W := ⟨_, rfl⟩
          rw [hn] at g9 k1 k2 hwn
          rw [hn]
          clear hn fx lx
          replace HW := Lib.hid hwn
          replace HX := Lib.hid g9
          replace HY := Lib.hid ((k1 Y (by omega)).trans HY.out)
          replace HEa := Lib.hid (And.intro (OwnP.keepO HEa.out.1 (fun g hg => k1 g (by have := hge g hg; omega))) (fun x hx => (HEa.out.2 x hx).keep fun k hk => ⟨k1 k (by have := hk.resolve_left (Nat.not_lt_zero k); omega), hk⟩))
          replace HMa := Lib.hid (show MeAt Wn (Iv la ha) _ a1 ∧ ha ≤ Wn.heap.size from ⟨HMa.out.1.keep fun k hk => ⟨k1 k (by have := hk.1; have := hk.2; omega), hk⟩, by rw [k2]; exact HMa.out.2⟩)
          replace HMb := Lib.hid (show MeAt Wn (Iv lb hb9) _ b1 ∧ hb9 ≤ Wn.heap.size from ⟨HMb.out.1.keep fun k hk => ⟨k1 k (by have := hk.1; have := hk.2; omega), hk⟩, by rw [k2]; exact HMb.out.2⟩)
          clear g9 k1 k2 hwn
          obtain ⟨W0, rfl⟩ : ∃ W, W = Wn := ⟨Wn, rfl⟩
          refine hK.out _ _ (HS.out _ HW.out) (fun hHeld => ?_)
          clear hK K
          try simp only [Act.put, List.setIfInBounds_toArray, List.set_cons_zero, List.set_cons_succ]
          refine wpAnyH_ready (rs := [7]) (by kernel_rfl) (by simp) ?_
          refine AllReadyH.cons (by first | (simp only [List.getElem?_toArray, List.getElem?_cons_succ, List.getElem?_cons_zero]; rfl) | rfl) (fun K hK => ?_) AllReadyH.nil
          have fx := cells6T HY.out
          have lx := lt_of_blk HY.out
          go_simp
          have g9 := set6T HY.out (.string (mkB b1.nm)) (.slice B1 b1.ps.length m1) (.slice B2 b1.ts.length m2) (.int .i64 b1.pr) (.slice B4 b1.bd.length d4) (.int .i64 b1.at_)
          obtain ⟨k1, k2⟩ := six_setT (w := W0) (C := Y) (.string (mkB b1.nm)) (.slice B1 b1.ps.length m1) (.slice B2 b1.ts.length m2) (.int .i64 b1.pr) (.slice B4 b1.bd.length d4) (.int .i64 b1.at_)
          have hwn := ((((((HW.out).setCell (p := ⟨Y, 0, none⟩) hsY (.string (mkB b1.nm))).setCell (p := ⟨Y, 1, none⟩) hsY (.slice B1 b1.ps.length m1)).setCell (p := ⟨Y, 2, none⟩) hsY (.slice B2 b1.ts.length m2)).setCell (p := ⟨Y, 3, none⟩) hsY (.int .i64 b1.pr)).setCell (p := ⟨Y, 4, none⟩) hsY (.slice B4 b1.bd.length d4)).setCell (p := ⟨Y, 5, none⟩) hsY (.int .i64 b1.at_)
          obtain ⟨Wn, hn⟩ : ∃ W, (((((W0.setCell ⟨Y, 0, none⟩ (.string (mkB b1.nm))).setCell ⟨Y, 1, none⟩ (.slice B1 b1.ps.length m1)).setCell ⟨Y, 2, none⟩ (.slice B2 b1.ts.length m2)).setCell ⟨Y, 3, none⟩ (.int .i64 b1.pr)).setCell ⟨Y, 4, none⟩ (.slice B4 b1.bd.length d4)).setCell ⟨Y, 5, none⟩ (.int .i64 b1.at_) = W := ⟨_, rfl⟩
          rw [hn] at g9 k1 k2 hwn
          rw [hn]
          clear hn fx lx
          replace HW := Lib.hid hwn
          replace HY := Lib.hid g9
          replace HX := Lib.hid ((k1 X (by omega)).trans HX.out)
          replace HEa := Lib.hid (And.intro (OwnP.keepO HEa.out.1 (fun g hg => k1 g (by have := hge g hg; omega))) (fun x hx => (HEa.out.2 x hx).keep fun k hk => ⟨k1 k (by have := hk.resolve_left (Nat.not_lt_zero k); omega), hk⟩))
          replace HMa := Lib.hid (show MeAt Wn (Iv la ha) _ a1 ∧ ha ≤ Wn.heap.size from ⟨HMa.out.1.keep fun k hk => ⟨k1 k (by have := hk.1; have := hk.2; omega), hk⟩, by rw [k2]; exact HMa.out.2⟩)
          replace HMb := Lib.hid (show MeAt Wn (Iv lb hb9) _ b1 ∧ hb9 ≤ Wn.heap.size from ⟨HMb.out.1.keep fun k hk => ⟨k1 k (by have := hk.1; have := hk.2; omega), hk⟩, by rw [k2]; exact HMb.out.2⟩)
          clear g9 k1 k2 hwn
          obtain ⟨W0, rfl⟩ : ∃ W, W = Wn := ⟨Wn, rfl⟩
          refine hK.out _ _ (HS.out _ HW.out) (fun hHeld => ?_)
          clear hK K
          try simp only [Act.put, List.setIfInBounds_toArray, List.set_cons_zero, List.set_cons_succ]
          refine wpAnyH_done (by kernel_rfl) ?_ _
          refine HKK.out _ _ ?_
          go_wp2_with fail
          go_meet
          exact ⟨X, Y, la, ha, lb, hb9, A1, n1, A2, n2, A4, c4, es, B1, m1, B2, m2, B4, d4, rfl, rfl, Lib.hid ⟨⟨hsX, hsY, hXY⟩, ⟨hla.1, hla.2, hab, hlb.2⟩, hxaX, hxaY, hxbX, hxbY⟩, HX, HY, HMa, HMb, HEa, HE1, Lib.hid hge, HW⟩
      · skip
        go_simp
        show K _ (W0.alloc (.cells #[.string ⟨#[]⟩, .slice none 0 0, .slice none 0 0, .int .i64 0, .slice none 0 0, .int .i64 0] 30))
        obtain ⟨Wn, hn⟩ : ∃ W, W0.alloc (.cells #[.string ⟨#[]⟩, .slice none 0 0, .slice none 0 0, .int .i64 0, .slice none 0 0, .int .i64 0] 30) = W := ⟨_, rfl⟩
        obtain ⟨Y, hY⟩ : ∃ X, W0.heap.size = X := ⟨_, rfl⟩
        have hb : Below W0.heap.size W0 Wn := by rw [← hn]; exact (Below.refl _ _).alloc (Nat.le_refl _) _
        have hbs := hb.size
        have HY : Hid (Wn.heap[Y]? = some (.cells #[.string ⟨#[]⟩, .slice none 0 0, .slice none 0 0, .int .i64 0, .slice none 0 0, .int .i64 0] 30 (0, 0))) := Lib.hid (by rw [← hn, ← hY]; exact heap_alloc_new W0 _)
        have hsY : wa.heap.size ≤ Y := by rw [← hY]; exact HW.out.size
        rw [hn]
        try simp only [hY]
        clear hn hY
        replace HW := Lib.hid (HW.out.trans (hb.mono HW.out.size))
        clear hb hbs
        obtain ⟨W0, rfl⟩ : ∃ W, W = Wn := ⟨Wn, rfl⟩
        refine hK.out _ _ (HS.out _ HW.out) (fun hHeld => ?_)
        clear hK K
        try simp only [Act.put, List.setIfInBounds_toArray, List.set_cons_zero, List.set_cons_succ]
        refine wpAnyH_ready (rs := [1, 4]) (by kernel_rfl) (by simp) ?_
        refine AllReadyH.cons (by first | (simp only [List.getElem?_toArray, List.getElem?_cons_succ, List.getElem?_cons_zero]; rfl) | rfl) (fun K hK => ?_) (AllReadyH.cons (by first | (simp only [List.getElem?_toArray, List.getElem?_cons_succ, List.getElem?_cons_zero]; rfl) | rfl) (fun K hK => ?_) AllReadyH.nil)
        · skip
          go_simp
          refine (HOa.out W0 HW.out).mono ?_
          rintro e Wn ⟨v9, he, hma, hb, sa1, sa2, A4, c4, es, hv, he1, he2, he3⟩
          subst hv
          obtain ⟨A1, n1, A2, n2, A9, n9, hv2, -⟩ := id hma.ex
          simp only [Value.agg.injEq, Array.mk.injEq, List.cons.injEq] at hv2
          obtain ⟨-, rfl, rfl, -⟩ := hv2
          subst he
          dsimp only
          have hbs := hb.size
          obtain ⟨la, hl9⟩ : ∃ l, W0.heap.size = l := ⟨_, rfl⟩
          obtain ⟨ha, hh9⟩ : ∃ l, Wn.heap.size = l := ⟨_, rfl⟩
          have hla : wa.heap.size ≤ la ∧ la ≤ ha := ⟨by rw [← hl9]; exact HW.out.size, by rw [← hl9, ← hh9]; exact hbs⟩
          have hxaY : Y < la ∨ ha ≤ Y := .inl (by rw [← hl9]; exact lt_of_blk HY.out)
          replace HW := Lib.hid (HW.out.trans (hb.mono HW.out.size))
          replace HY := Lib.hid ((hb.block Y (lt_of_blk HY.out)).trans HY.out)
          have HMa := Lib.hid (show MeAt Wn (Iv la ha) _ a1 ∧ ha ≤ Wn.heap.size from ⟨hma.keep fun k hk => ⟨rfl, by rw [hl9, hh9] at hk; exact hk.resolve_left (Nat.not_lt_zero k)⟩, Nat.le_of_eq hh9.symm⟩)
          have hge : ∀ g, (Value.slice A4 a1.bd.length c4).ownBlock = some g → la ≤ g ∧ g < ha := fun g hg => by have := World.ownsRow.lt he2 g hg; rw [hl9, hh9] at this; exact this
          rw [hl9] at he2
          rw [hl9, hh9] at he3
          have HEa := Lib.hid (And.intro he2 he3)
          have HE1 := Lib.hid he1
          clear hma he1 he2 he3 hb hbs hl9 hh9
          obtain ⟨W0, rfl⟩ : ∃ W, W = Wn := ⟨Wn, rfl⟩
          refine hK.out _ _ (HS.out _ HW.out) (fun hHeld => ?_)
          clear hK K
          try simp only [Act.put, List.setIfInBounds_toArray, List.set_cons_zero, List.set_cons_succ]
          refine wpAnyH_ready (rs := [3, 4]) (by kernel_rfl) (by simp) ?_
          refine AllReadyH.cons (by first | (simp only [List.getElem?_toArray, List.getElem?_cons_succ, List.getElem?_cons_zero]; rfl) | rfl) (fun K hK => ?_) (AllReadyH.cons (by first | (simp only [List.getElem?_toArray, List.getElem?_cons_succ, List.getElem?_cons_zero]; rfl) | rfl) (fun K hK => ?_) AllReadyH.nil)
          · skip
            go_simp
            refine (HOb.out W0 HW.out).mono ?_
            rintro e Wn ⟨v9, he, hma, hb, sb1, sb2, B4, d4, fs, hv, he1, he2, he3⟩
            subst hv
            obtain ⟨B1, m1, B2, m2, A9, n9, hv2, -⟩ := id hma.ex
            simp only [Value.agg.injEq, Array.mk.injEq, List.cons.injEq] at hv2
            obtain ⟨-, rfl, rfl, -⟩ := hv2
            subst he
            dsimp only
            have hbs := hb.size
            obtain ⟨lb, hl9⟩ : ∃ l, W0.heap.size = l := ⟨_, rfl⟩
            obtain ⟨hb9, hh9⟩ : ∃ l, Wn.heap.size = l := ⟨_, rfl⟩
            have hlb : wa.heap.size ≤ lb ∧ lb ≤ hb9 := ⟨by rw [← hl9]; exact HW.out.size, by rw [← hl9, ← hh9]; exact hbs⟩
            have hxbY : Y < lb ∨ hb9 ≤ Y := .inl (by rw [← hl9]; exact lt_of_blk HY.out)
            have hab : ha ≤ lb := by rw [← hl9]; exact HMa.out.2
            replace HW := Lib.hid (HW.out.trans (hb.mono HW.out.size))
            replace HY := Lib.hid ((hb.block Y (lt_of_blk HY.out)).trans HY.out)
            replace HEa := Lib.hid (And.intro (OwnP.below HEa.out.1 hb) (fun x hx => (HEa.out.2 x hx).keep fun k hk => ⟨hb.block k (Nat.lt_of_lt_of_le (hk.resolve_left (Nat.not_lt_zero k)).2.1 HMa.out.2), hk⟩))
            replace HMa := Lib.hid (show MeAt Wn (Iv la ha) _ a1 ∧ ha ≤ Wn.heap.size from ⟨HMa.out.1.keep fun k hk => ⟨hb.block k (Nat.lt_of_lt_of_le hk.2 HMa.out.2), hk⟩, Nat.le_trans HMa.out.2 hbs⟩)
            have HMb := Lib.hid (show MeAt Wn (Iv lb hb9) _ b1 ∧ hb9 ≤ Wn.heap.size from ⟨hma.keep fun k hk => ⟨rfl, by rw [hl9, hh9] at hk; exact hk.resolve_left (Nat.not_lt_zero k)⟩, Nat.le_of_eq hh9.symm⟩)
            clear hma he1 he2 he3 hb hbs hl9 hh9
            obtain ⟨W0, rfl⟩ : ∃ W, W = Wn := ⟨Wn, rfl⟩
            refine hK.out _ _ (HS.out _ HW.out) (fun hHeld => ?_)
            clear hK K
            try simp only [Act.put, List.setIfInBounds_toArray, List.set_cons_zero, List.set_cons_succ]
            refine wpAnyH_ready (rs := [4]) (by kernel_rfl) (by simp) ?_
            refine AllReadyH.cons (by first | (simp only [List.getElem?_toArray, List.getElem?_cons_succ, List.getElem?_cons_zero]; rfl) | rfl) (fun K hK => ?_) AllReadyH.nil
            go_simp
            show K _ (W0.alloc (.cells #[.string ⟨#[]⟩, .slice none 0 0, .slice none 0 0, .int .i64 0, .slice none 0 0, .int .i64 0] 30))
            obtain ⟨Wn, hn⟩ : ∃ W, W0.alloc (.cells #[.string ⟨#[]⟩, .slice none 0 0, .slice none 0 0, .int .i64 0, .slice none 0 0, .int .i64 0] 30) = W := ⟨_, rfl⟩
            obtain ⟨X, hX⟩ : ∃ X, W0.heap.size = X := ⟨_, rfl⟩
            have hb : Below W0.heap.size W0 Wn := by rw [← hn]; exact (Below.refl _ _).alloc (Nat.le_refl _) _
            have hbs := hb.size
            have HX : Hid (Wn.heap[X]? = some (.cells #[.string ⟨#[]⟩, .slice none 0 0, .slice none 0 0, .int .i64 0, .slice none 0 0, .int .i64 0] 30 (0, 0))) := Lib.hid (by rw [← hn, ← hX]; exact heap_alloc_new W0 _)
            have hsX : wa.heap.size ≤ X := by rw [← hX]; exact HW.out.size
            have hxaX : X < la ∨ ha ≤ X := .inr (by rw [← hX]; exact HMa.out.2)
            have hxbX : X < lb ∨ hb9 ≤ X := .inr (by rw [← hX]; exact HMb.out.2)
            have hXY : X ≠ Y := by have := lt_of_blk HY.out; omega
            rw [hn]
            try simp only [hX]
            clear hn hX
            replace HW := Lib.hid (HW.out.trans (hb.mono HW.out.size))
            replace HY := Lib.hid ((hb.block Y (lt_of_blk HY.out)).trans HY.out)
            replace HEa := Lib.hid (And.intro (OwnP.below HEa.out.1 hb) (fun x hx => (HEa.out.2 x hx).keep fun k hk => ⟨hb.block k (Nat.lt_of_lt_of_le (hk.resolve_left (Nat.not_lt_zero k)).2.1 HMa.out.2), hk⟩))
            replace HMa := Lib.hid (show MeAt Wn (Iv la ha) _ a1 ∧ ha ≤ Wn.heap.size from ⟨HMa.out.1.keep fun k hk => ⟨hb.block k (Nat.lt_of_lt_of_le hk.2 HMa.out.2), hk⟩, Nat.le_trans HMa.out.2 hbs⟩)
            replace HMb := Lib.hid (show MeAt Wn (Iv lb hb9) _ b1 ∧ hb9 ≤ Wn.heap.size from ⟨HMb.out.1.keep fun k hk => ⟨hb.block k (Nat.lt_of_lt_of_le hk.2 HMb.out.2), hk⟩, Nat.le_trans HMb.out.2 hbs⟩)
            clear hb hbs
            obtain ⟨W0, rfl⟩ : ∃ W, W = Wn := ⟨Wn, rfl⟩
            refine hK.out _ _ (HS.out _ HW.out) (fun hHeld => ?_)
            clear hK K
            try simp only [Act.put, List.setIfInBounds_toArray, List.set_cons_zero, List.set_cons_succ]
            refine wpAnyH_ready (rs := [6]) (by kernel_rfl) (by simp) ?_
            refine AllReadyH.cons (by first | (simp only [List.getElem?_toArray, List.getElem?_cons_succ, List.getElem?_cons_zero]; rfl) | rfl) (fun K hK => ?_) AllReadyH.nil
            have fx := cells6T HX.out
            have lx := lt_of_blk HX.out
            go_simp
            have g9 := set6T HX.out (.string (mkB a1.nm)) (.slice A1 a1.ps.length n1) (.slice A2 a1.ts.length n2) (.int .i64 a1.pr) (.slice A4 a1.bd.length c4) (.int .i64 a1.at_)
            obtain ⟨k1, k2⟩ := six_setT (w := W0) (C := X) (.string (mkB a1.nm)) (.slice A1 a1.ps.length n1) (.slice A2 a1.ts.length n2) (.int .i64 a1.pr) (.slice A4 a1.bd.length c4) (.int .i64 a1.at_)
            have hwn := ((((((HW.out).setCell (p := ⟨X, 0, none⟩) hsX (.string (mkB a1.nm))).setCell (p := ⟨X, 1, none⟩) hsX (.slice A1 a1.ps.length n1)).setCell (p := ⟨X, 2, none⟩) hsX (.slice A2 a1.ts.length n2)).setCell (p := ⟨X, 3, none⟩) hsX (.int .i64 a1.pr)).setCell (p := ⟨X, 4, none⟩) hsX (.slice A4 a1.bd.length c4)).setCell (p := ⟨X, 5, none⟩) hsX (.int .i64 a1.at_)
            obtain ⟨Wn, hn⟩ : ∃ W, (((((W0.setCell ⟨X, 0, none⟩ (.string (mkB a1.nm))).setCell ⟨X, 1, none⟩ (.slice A1 a1.ps.length n1)).setCell ⟨X, 2, none⟩ (.slice A2 a1.ts.length n2)).setCell ⟨X, 3, none⟩ (.int .i64 a1.pr)).setCell ⟨X, 4, none⟩ (.slice A4 a1.bd.length c4)).setCell ⟨X, 5, none⟩ (.int .i64 a1.at_) = W := ⟨_, rfl⟩
            rw [hn] at g9 k1 k2 hwn
            rw [hn]
            clear hn fx lx
            replace HW := Lib.hid hwn
            replace HX := Lib.hid g9
            replace HY := Lib.hid ((k1 Y (by omega)).trans HY.out)
            replace HEa := Lib.hid (And.intro (OwnP.keepO HEa.out.1 (fun g hg => k1 g (by have := hge g hg; omega))) (fun x hx => (HEa.out.2 x hx).keep fun k hk => ⟨k1 k (by have := hk.resolve_left (Nat.not_lt_zero k); omega), hk⟩))
            replace HMa := Lib.hid (show MeAt Wn (Iv la ha) _ a1 ∧ ha ≤ Wn.heap.size from ⟨HMa.out.1.keep fun k hk => ⟨k1 k (by have := hk.1; have := hk.2; omega), hk⟩, by rw [k2]; exact HMa.out.2⟩)
            replace HMb := Lib.hid (show MeAt Wn (Iv lb hb9) _ b1 ∧ hb9 ≤ Wn.heap.size from ⟨HMb.out.1.keep fun k hk => ⟨k1 k (by have := hk.1; have := hk.2; omega), hk⟩, by rw [k2]; exact HMb.out.2⟩)
            clear g9 k1 k2 hwn
            obtain ⟨W0, rfl⟩ : ∃ W, W = Wn := ⟨Wn, rfl⟩
            refine hK.out _ _ (HS.out _ HW.out) (fun hHeld => ?_)
            clear hK K
            try simp only [Act.put, List.setIfInBounds_toArray, List.set_cons_zero, List.set_cons_succ]
            refine wpAnyH_ready (rs := [7]) (by kernel_rfl) (by simp) ?_
            refine AllReadyH.cons (by first | (simp only [List.getElem?_toArray, List.getElem?_cons_succ, List.getElem?_cons_zero]; rfl) | rfl) (fun K hK => ?_) AllReadyH.nil
            have fx := cells6T HY.out
            have lx := lt_of_blk HY.out
            go_simp
            have g9 := set6T HY.out (.string (mkB b1.nm)) (.slice B1 b1.ps.length m1) (.slice B2 b1.ts.length m2) (.int .i64 b1.pr) (.slice B4 b1.bd.length d4) (.int .i64 b1.at_)
            obtain ⟨k1, k2⟩ := six_setT (w := W0) (C := Y) (.string (mkB b1.nm)) (.slice B1 b1.ps.length m1) (.slice B2 b1.ts.length m2) (.int .i64 b1.pr) (.slice B4 b1.bd.length d4) (.int .i64 b1.at_)
            have hwn := ((((((HW.out).setCell (p := ⟨Y, 0, none⟩) hsY (.string (mkB b1.nm))).setCell (p := ⟨Y, 1, none⟩) hsY (.slice B1 b1.ps.length m1)).setCell (p := ⟨Y, 2, none⟩) hsY (.slice B2 b1.ts.length m2)).setCell (p := ⟨Y, 3, none⟩) hsY (.int .i64 b1.pr)).setCell (p := ⟨Y, 4, none⟩) hsY (.slice B4 b1.bd.length d4)).setCell (p := ⟨Y, 5, none⟩) hsY (.int .i64 b1.at_)
            obtain ⟨Wn, hn⟩ : ∃ W, (((((W0.setCell ⟨Y, 0, none⟩ (.string (mkB b1.nm))).setCell ⟨Y, 1, none⟩ (.slice B1 b1.ps.length m1)).setCell ⟨Y, 2, none⟩ (.slice B2 b1.ts.length m2)).setCell ⟨Y, 3, none⟩ (.int .i64 b1.pr)).setCell ⟨Y, 4, none⟩ (.slice B4 b1.bd.length d4)).setCell ⟨Y, 5, none⟩ (.int .i64 b1.at_) = W := ⟨_, rfl⟩
            rw [hn] at g9 k1 k2 hwn
            rw [hn]
            clear hn fx lx
            replace HW := Lib.hid hwn
            replace HY := Lib.hid g9
            replace HX := Lib.hid ((k1 X (by omega)).trans HX.out)
            replace HEa := Lib.hid (And.intro (OwnP.keepO HEa.out.1 (fun g hg => k1 g (by have := hge g hg; omega))) (fun x hx => (HEa.out.2 x hx).keep fun k hk => ⟨k1 k (by have := hk.resolve_left (Nat.not_lt_zero k); omega), hk⟩))
            replace HMa := Lib.hid (show MeAt Wn (Iv la ha) _ a1 ∧ ha ≤ Wn.heap.size from ⟨HMa.out.1.keep fun k hk => ⟨k1 k (by have := hk.1; have := hk.2; omega), hk⟩, by rw [k2]; exact HMa.out.2⟩)
            replace HMb := Lib.hid (show MeAt Wn (Iv lb hb9) _ b1 ∧ hb9 ≤ Wn.heap.size from ⟨HMb.out.1.keep fun k hk => ⟨k1 k (by have := hk.1; have := hk.2; omega), hk⟩, by rw [k2]; exact HMb.out.2⟩)
            clear g9 k1 k2 hwn
            obtain ⟨W0, rfl⟩ : ∃ W, W = Wn := ⟨Wn, rfl⟩
            refine hK.out _ _ (HS.out _ HW.out) (fun hHeld => ?_)
            clear hK K
            try simp only [Act.put, List.setIfInBounds_toArray, List.set_cons_zero, List.set_cons_succ]
            refine wpAnyH_done (by kernel_rfl) ?_ _
            refine HKK.out _ _ ?_
            go_wp2_with fail
            go_meet
            exact ⟨X, Y, la, ha, lb, hb9, A1, n1, A2, n2, A4, c4, es, B1, m1, B2, m2, B4, d4, rfl, rfl, Lib.hid ⟨⟨hsX, hsY, hXY⟩, ⟨hla.1, hla.2, hab, hlb.2⟩, hxaX, hxaY, hxbX, hxbY⟩, HX, HY, HMa, HMb, HEa, HE1, Lib.hid hge, HW⟩
          · skip
            go_simp
            show K _ (W0.alloc (.cells #[.string ⟨#[]⟩, .slice none 0 0, .slice none 0 0, .int .i64 0, .slice none 0 0, .int .i64 0] 30))
            obtain ⟨Wn, hn⟩ : ∃ W, W0.alloc (.cells #[.string ⟨#[]⟩, .slice none 0 0, .slice none 0 0, .int .i64 0, .slice none 0 0, .int .i64 0] 30) = W := ⟨_, rfl⟩
            obtain ⟨X, hX⟩ : ∃ X, W0.heap.size = X := ⟨_, rfl⟩
            have hb : Below W0.heap.size W0 Wn := by rw [← hn]; exact (Below.refl _ _).alloc (Nat.le_refl _) _
            have hbs := hb.size
            have HX : Hid (Wn.heap[X]? = some (.cells #[.string ⟨#[]⟩, .slice none 0 0, .slice none 0 0, .int .i64 0, .slice none 0 0, .int .i64 0] 30 (0, 0))) := Lib.hid (by rw [← hn, ← hX]; exact heap_alloc_new W0 _)
            have hsX : wa.heap.size ≤ X := by rw [← hX]; exact HW.out.size
            have hxaX : X < la ∨ ha ≤ X := .inr (by rw [← hX]; exact HMa.out.2)
            have hXY : X ≠ Y := by have := lt_of_blk HY.out; omega
            rw [hn]
            try simp only [hX]
            clear hn hX
            replace HW := Lib.hid (HW.out.trans (hb.mono HW.out.size))
            replace HY := Lib.hid ((hb.block Y (lt_of_blk HY.out)).trans HY.out)
            replace HEa := Lib.hid (And.intro (OwnP.below HEa.out.1 hb) (fun x hx => (HEa.out.2 x hx).keep fun k hk => ⟨hb.block k (Nat.lt_of_lt_of_le (hk.resolve_left (Nat.not_lt_zero k)).2.1 HMa.out.2), hk⟩))
            replace HMa := Lib.hid (show MeAt Wn (Iv la ha) _ a1 ∧ ha ≤ Wn.heap.size from ⟨HMa.out.1.keep fun k hk => ⟨hb.block k (Nat.lt_of_lt_of_le hk.2 HMa.out.2), hk⟩, Nat.le_trans HMa.out.2 hbs⟩)
            clear hb hbs
            obtain ⟨W0, rfl⟩ : ∃ W, W = Wn := ⟨Wn, rfl⟩
            refine hK.out _ _ (HS.out _ HW.out) (fun hHeld => ?_)
            clear hK K
            try simp only [Act.put, List.setIfInBounds_toArray, List.set_cons_zero, List.set_cons_succ]
            refine wpAnyH_ready (rs := [3]) (by kernel_rfl) (by simp) ?_
            refine AllReadyH.cons (by first | (simp only [List.getElem?_toArray, List.getElem?_cons_succ, List.getElem?_cons_zero]; rfl) | rfl) (fun K hK => ?_) AllReadyH.nil
            go_simp
            refine (HOb.out W0 HW.out).mono ?_
            rintro e Wn ⟨v9, he, hma, hb, sb1, sb2, B4, d4, fs, hv, he1, he2, he3⟩
            subst hv
            obtain ⟨B1, m1, B2, m2, A9, n9, hv2, -⟩ := id hma.ex
            simp only [Value.agg.injEq, Array.mk.injEq, List.cons.injEq] at hv2
            obtain ⟨-, rfl, rfl, -⟩ := hv2
            subst he
            dsimp only
            have hbs := hb.size
            obtain ⟨lb, hl9⟩ : ∃ l, W0.heap.size = l := ⟨_, rfl⟩
            obtain ⟨hb9, hh9⟩ : ∃ l, Wn.heap.size = l := ⟨_, rfl⟩
            have hlb : wa.heap.size ≤ lb ∧ lb ≤ hb9 := ⟨by rw [← hl9]; exact HW.out.size, by rw [← hl9, ← hh9]; exact hbs⟩
            have hxbX : X < lb ∨ hb9 ≤ X := .inl (by rw [← hl9]; exact lt_of_blk HX.out)
            have hxbY : Y < lb ∨ hb9 ≤ Y := .inl (by rw [← hl9]; exact lt_of_blk HY.out)
            have hab : ha ≤ lb := by rw [← hl9]; exact HMa.out.2
            replace HW := Lib.hid (HW.out.trans (hb.mono HW.out.size))
            replace HX := Lib.hid ((hb.block X (lt_of_blk HX.out)).trans HX.out)
            replace HY := Lib.hid ((hb.block Y (lt_of_blk HY.out)).trans HY.out)
            replace HEa := Lib.hid (And.intro (OwnP.below HEa.out.1 hb) (fun x hx => (HEa.out.2 x hx).keep fun k hk => ⟨hb.block k (Nat.lt_of_lt_of_le (hk.resolve_left (Nat.not_lt_zero k)).2.1 HMa.out.2), hk⟩))
            replace HMa := Lib.hid (show MeAt Wn (Iv la ha) _ a1 ∧ ha ≤ Wn.heap.size from ⟨HMa.out.1.keep fun k hk => ⟨hb.block k (Nat.lt_of_lt_of_le hk.2 HMa.out.2), hk⟩, Nat.le_trans HMa.out.2 hbs⟩)
            have HMb := Lib.hid (show MeAt Wn (Iv lb hb9) _ b1 ∧ hb9 ≤ Wn.heap.size from ⟨hma.keep fun k hk => ⟨rfl, by rw [hl9, hh9] at hk; exact hk.resolve_left (Nat.not_lt_zero k)⟩, Nat.le_of_eq hh9.symm⟩)
            clear hma he1 he2 he3 hb hbs hl9 hh9
            obtain ⟨W0, rfl⟩ : ∃ W, W = Wn := ⟨Wn, rfl⟩
            refine hK.out _ _ (HS.out _ HW.out) (fun hHeld => ?_)
            clear hK K
            try simp only [Act.put, List.setIfInBounds_toArray, List.set_cons_zero, List.set_cons_succ]
            refine wpAnyH_ready (rs := [6]) (by kernel_rfl) (by simp) ?_
            refine AllReadyH.cons (by first | (simp only [List.getElem?_toArray, List.getElem?_cons_succ, List.getElem?_cons_zero]; rfl) | rfl) (fun K hK => ?_) AllReadyH.nil
            have fx := cells6T HX.out
            have lx := lt_of_blk HX.out
            go_simp
            have g9 := set6T HX.out (.string (mkB a1.nm)) (.slice A1 a1.ps.length n1) (.slice A2 a1.ts.length n2) (.int .i64 a1.pr) (.slice A4 a1.bd.length c4) (.int .i64 a1.at_)
            obtain ⟨k1, k2⟩ := six_setT (w := W0) (C := X) (.string (mkB a1.nm)) (.slice A1 a1.ps.length n1) (.slice A2 a1.ts.length n2) (.int .i64 a1.pr) (.slice A4 a1.bd.length c4) (.int .i64 a1.at_)
            have hwn := ((((((HW.out).setCell (p := ⟨X, 0, none⟩) hsX (.string (mkB a1.nm))).setCell (p := ⟨X, 1, none⟩) hsX (.slice A1 a1.ps.length n1)).setCell (p := ⟨X, 2, none⟩) hsX (.slice A2 a1.ts.length n2)).setCell (p := ⟨X, 3, none⟩) hsX (.int .i64 a1.pr)).setCell (p := ⟨X, 4, none⟩) hsX (.slice A4 a1.bd.length c4)).setCell (p := ⟨X, 5, none⟩) hsX (.int .i64 a1.at_)
            obtain ⟨Wn, hn⟩ : ∃ W, (((((W0.setCell ⟨X, 0, none⟩ (.string (mkB a1.nm))).setCell ⟨X, 1, none⟩ (.slice A1 a1.ps.length n1)).setCell ⟨X, 2, none⟩ (.slice A2 a1.ts.length n2)).setCell ⟨X, 3, none⟩ (.int .i64 a1.pr)).setCell ⟨X, 4, none⟩ (.slice A4 a1.bd.length c4)).setCell ⟨X, 5, none⟩ (.int .i64 a1.at_) = W := ⟨_, rfl⟩
            rw [hn] at g9 k1 k2 hwn
            rw [hn]
            clear hn fx lx
            replace HW := Lib.hid hwn
            replace HX := Lib.hid g9
            replace HY := Lib.hid ((k1 Y (by omega)).trans HY.out)
            replace HEa := Lib.hid (And.intro (OwnP.keepO HEa.out.1 (fun g hg => k1 g (by have := hge g hg; omega))) (fun x hx => (HEa.out.2 x hx).keep fun k hk => ⟨k1 k (by have := hk.resolve_left (Nat.not_lt_zero k); omega), hk⟩))
            replace HMa := Lib.hid (show MeAt Wn (Iv la ha) _ a1 ∧ ha ≤ Wn.heap.size from ⟨HMa.out.1.keep fun k hk => ⟨k1 k (by have := hk.1; have := hk.2; omega), hk⟩, by rw [k2]; exact HMa.out.2⟩)
            replace HMb := Lib.hid (show MeAt Wn (Iv lb hb9) _ b1 ∧ hb9 ≤ Wn.heap.size from ⟨HMb.out.1.keep fun k hk => ⟨k1 k (by have := hk.1; have := hk.2; omega), hk⟩, by rw [k2]; exact HMb.out.2⟩)
            clear g9 k1 k2 hwn
            obtain ⟨W0, rfl⟩ : ∃ W, W = Wn := ⟨Wn, rfl⟩
            refine hK.out _ _ (HS.out _ HW.out) (fun hHeld => ?_)
            clear hK K
            try simp only [Act.put, List.setIfInBounds_toArray, List.set_cons_zero, List.set_cons_succ]
            refine wpAnyH_ready (rs := [7]) (by kernel_rfl) (by simp) ?_
            refine AllReadyH.cons (by first | (simp only [List.getElem?_toArray, List.getElem?_cons_succ, List.getElem?_cons_zero]; rfl) | rfl) (fun K hK => ?_) AllReadyH.nil
            have fx := cells6T HY.out
            have lx := lt_of_blk HY.out
            go_simp
            have g9 := set6T HY.out (.string (mkB b1.nm)) (.slice B1 b1.ps.length m1) (.slice B2 b1.ts.length m2) (.int .i64 b1.pr) (.slice B4 b1.bd.length d4) (.int .i64 b1.at_)
            obtain ⟨k1, k2⟩ := six_setT (w := W0) (C := Y) (.string (mkB b1.nm)) (.slice B1 b1.ps.length m1) (.slice B2 b1.ts.length m2) (.int .i64 b1.pr) (.slice B4 b1.bd.length d4) (.int .i64 b1.at_)
            have hwn := ((((((HW.out).setCell (p := ⟨Y, 0, none⟩) hsY (.string (mkB b1.nm))).setCell (p := ⟨Y, 1, none⟩) hsY (.slice B1 b1.ps.length m1)).setCell (p := ⟨Y, 2, none⟩) hsY (.slice B2 b1.ts.length m2)).setCell (p := ⟨Y, 3, none⟩) hsY (.int .i64 b1.pr)).setCell (p := ⟨Y, 4, none⟩) hsY (.slice B4 b1.bd.length d4)).setCell (p := ⟨Y, 5, none⟩) hsY (.int .i64 b1.at_)
            obtain ⟨Wn, hn⟩ : ∃ W, (((((W0.setCell ⟨Y, 0, none⟩ (.string (mkB b1.nm))).setCell ⟨Y, 1, none⟩ (.slice B1 b1.ps.length m1)).setCell ⟨Y, 2, none⟩ (.slice B2 b1.ts.length m2)).setCell ⟨Y, 3, none⟩ (.int .i64 b1.pr)).setCell ⟨Y, 4, none⟩ (.slice B4 b1.bd.length d4)).setCell ⟨Y, 5, none⟩ (.int .i64 b1.at_) = W := ⟨_, rfl⟩
            rw [hn] at g9 k1 k2 hwn
            rw [hn]
            clear hn fx lx
            replace HW := Lib.hid hwn
            replace HY := Lib.hid g9
            replace HX := Lib.hid ((k1 X (by omega)).trans HX.out)
            replace HEa := Lib.hid (And.intro (OwnP.keepO HEa.out.1 (fun g hg => k1 g (by have := hge g hg; omega))) (fun x hx => (HEa.out.2 x hx).keep fun k hk => ⟨k1 k (by have := hk.resolve_left (Nat.not_lt_zero k); omega), hk⟩))
            replace HMa := Lib.hid (show MeAt Wn (Iv la ha) _ a1 ∧ ha ≤ Wn.heap.size from ⟨HMa.out.1.keep fun k hk => ⟨k1 k (by have := hk.1; have := hk.2; omega), hk⟩, by rw [k2]; exact HMa.out.2⟩)
            replace HMb := Lib.hid (show MeAt Wn (Iv lb hb9) _ b1 ∧ hb9 ≤ Wn.heap.size from ⟨HMb.out.1.keep fun k hk => ⟨k1 k (by have := hk.1; have := hk.2; omega), hk⟩, by rw [k2]; exact HMb.out.2⟩)
            clear g9 k1 k2 hwn
            obtain ⟨W0, rfl⟩ : ∃ W, W = Wn := ⟨Wn, rfl⟩
            refine hK.out _ _ (HS.out _ HW.out) (fun hHeld => ?_)
            clear hK K
            try simp only [Act.put, List.setIfInBounds_toArray, List.set_cons_zero, List.set_cons_succ]
            refine wpAnyH_done (by kernel_rfl) ?_ _
            refine HKK.out _ _ ?_
            go_wp2_with fail
            go_meet
            exact ⟨X, Y, la, ha, lb, hb9, A1, n1, A2, n2, A4, c4, es, B1, m1, B2, m2, B4, d4, rfl, rfl, Lib.hid ⟨⟨hsX, hsY, hXY⟩, ⟨hla.1, hla.2, hab, hlb.2⟩, hxaX, hxaY, hxbX, hxbY⟩, HX, HY, HMa, HMb, HEa, HE1, Lib.hid hge, HW⟩
        · skip
          go_simp
          show K _ (W0.alloc (.cells #[.string ⟨#[]⟩, .slice none 0 0, .slice none 0 0, .int .i64 0, .slice none 0 0, .int .i64 0] 30))
          obtain ⟨Wn, hn⟩ : ∃ W, W0.alloc (.cells #[.string ⟨#[]⟩, .slice none 0 0, .slice none 0 0, .int .i64 0, .slice none 0 0, .int .i64 0] 30) = W := ⟨_, rfl⟩
          obtain ⟨X, hX⟩ : ∃ X, W0.heap.size = X := ⟨_, rfl⟩
          have hb : Below W0.heap.size W0 Wn := by rw [← hn]; exact (Below.refl _ _).alloc (Nat.le_refl _) _
          have hbs := hb.size
          have HX : Hid (Wn.heap[X]? = some (.cells #[.string ⟨#[]⟩, .slice none 0 0, .slice none 0 0, .int .i64 0, .slice none 0 0, .int .i64 0] 30 (0, 0))) := Lib.hid (by rw [← hn, ← hX]; exact heap_alloc_new W0 _)
          have hsX : wa.heap.size ≤ X := by rw [← hX]; exact HW.out.size
          have hXY : X ≠ Y := by have := lt_of_blk HY.out; omega
          rw [hn]
          try simp only [hX]
          clear hn hX
          replace HW := Lib.hid (HW.out.trans (hb.mono HW.out.size))
          replace HY := Lib.hid ((hb.block Y (lt_of_blk HY.out)).trans HY.out)
          clear hb hbs
          obtain ⟨W0, rfl⟩ : ∃ W, W = Wn := ⟨Wn, rfl⟩
          refine hK.out _ _ (HS.out _ HW.out) (fun hHeld => ?_)
          clear hK K
          try simp only [Act.put, List.setIfInBounds_toArray, List.set_cons_zero, List.set_cons_succ]
          refine wpAnyH_ready (rs := [1]) (by kernel_rfl) (by simp) ?_
          refine AllReadyH.cons (by first | (simp only [List.getElem?_toArray, List.getElem?_cons_succ, List.getElem?_cons_zero]; rfl) | rfl) (fun K hK => ?_) AllReadyH.nil
          go_simp
          refine (HOa.out W0 HW.out).mono ?_
          rintro e Wn ⟨v9, he, hma, hb, sa1, sa2, A4, c4, es, hv, he1, he2, he3⟩
          subst hv
          obtain ⟨A1, n1, A2, n2, A9, n9, hv2, -⟩ := id hma.ex
          simp only [Value.agg.injEq, Array.mk.injEq, List.cons.injEq] at hv2
          obtain ⟨-, rfl, rfl, -⟩ := hv2
          subst he
          dsimp only
          have hbs := hb.size
          obtain ⟨la, hl9⟩ : ∃ l, W0.heap.size = l := ⟨_, rfl⟩
          obtain ⟨ha, hh9⟩ : ∃ l, Wn.heap.size = l := ⟨_, rfl⟩
          have hla : wa.heap.size ≤ la ∧ la ≤ ha := ⟨by rw [← hl9]; exact HW.out.size, by rw [← hl9, ← hh9]; exact hbs⟩
          have hxaX : X < la ∨ ha ≤ X := .inl (by rw [← hl9]; exact lt_of_blk HX.out)
          have hxaY : Y < la ∨ ha ≤ Y := .inl (by rw [← hl9]; exact lt_of_blk HY.out)
          replace HW := Lib.hid (HW.out.trans (hb.mono HW.out.size))
          replace HX := Lib.hid ((hb.block X (lt_of_blk HX.out)).trans HX.out)
          replace HY := Lib.hid ((hb.block Y (lt_of_blk HY.out)).trans HY.out)
          have HMa := Lib.hid (show MeAt Wn (Iv la ha) _ a1 ∧ ha ≤ Wn.heap.size from ⟨hma.keep fun k hk => ⟨rfl, by rw [hl9, hh9] at hk; exact hk.resolve_left (Nat.not_lt_zero k)⟩, Nat.le_of_eq hh9.symm⟩)
          have hge : ∀ g, (Value.slice A4 a1.bd.length c4).ownBlock = some g → la ≤ g ∧ g < ha := fun g hg => by have := World.ownsRow.lt he2 g hg; rw [hl9, hh9] at this; exact this
          rw [hl9] at he2
          rw [hl9, hh9] at he3
          have HEa := Lib.hid (And.intro he2 he3)
          have HE1 := Lib.hid he1
          clear hma he1 he2 he3 hb hbs hl9 hh9
          obtain ⟨W0, rfl⟩ : ∃ W, W = Wn := ⟨Wn, rfl⟩
          refine hK.out _ _ (HS.out _ HW.out) (fun hHeld => ?_)
          clear hK K
          try simp only [Act.put, List.setIfInBounds_toArray, List.set_cons_zero, List.set_cons_succ]
          refine wpAnyH_ready (rs := [3]) (by kernel_rfl) (by simp) ?_
          refine AllReadyH.cons (by first | (simp only [List.getElem?_toArray, List.getElem?_cons_succ, List.getElem?_cons_zero]; rfl) | rfl) (fun K hK => ?_) AllReadyH.nil
          go_simp
          refine (HOb.out W0 HW.out).mono ?_
          rintro e Wn ⟨v9, he, hma, hb, sb1, sb2, B4, d4, fs, hv, he1, he2, he3⟩
          subst hv
          obtain ⟨B1, m1, B2, m2, A9, n9, hv2, -⟩ := id hma.ex
          simp only [Value.agg.injEq, Array.mk.injEq, List.cons.injEq] at hv2
          obtain ⟨-, rfl, rfl, -⟩ := hv2
          subst he
          dsimp only
          have hbs := hb.size
          obtain ⟨lb, hl9⟩ : ∃ l, W0.heap.size = l := ⟨_, rfl⟩
          obtain ⟨hb9, hh9⟩ : ∃ l, Wn.heap.size = l := ⟨_, rfl⟩
          have hlb : wa.heap.size ≤ lb ∧ lb ≤ hb9 := ⟨by rw [← hl9]; exact HW.out.size, by rw [← hl9, ← hh9]; exact hbs⟩
          have hxbX : X < lb ∨ hb9 ≤ X := .inl (by rw [← hl9]; exact lt_of_blk HX.out)
          have hxbY : Y < lb ∨ hb9 ≤ Y := .inl (by rw [← hl9]; exact lt_of_blk HY.out)
          have hab : ha ≤ lb := by rw [← hl9]; exact HMa.out.2
          replace HW := Lib.hid (HW.out.trans (hb.mono HW.out.size))
          replace HX := Lib.hid ((hb.block X (lt_of_blk HX.out)).trans HX.out)
          replace HY := Lib.hid ((hb.block Y (lt_of_blk HY.out)).trans HY.out)
          replace HEa := Lib.hid (And.intro (OwnP.below HEa.out.1 hb) (fun x hx => (HEa.out.2 x hx).keep fun k hk => ⟨hb.block k (Nat.lt_of_lt_of_le (hk.resolve_left (Nat.not_lt_zero k)).2.1 HMa.out.2), hk⟩))
          replace HMa := Lib.hid (show MeAt Wn (Iv la ha) _ a1 ∧ ha ≤ Wn.heap.size from ⟨HMa.out.1.keep fun k hk => ⟨hb.block k (Nat.lt_of_lt_of_le hk.2 HMa.out.2), hk⟩, Nat.le_trans HMa.out.2 hbs⟩)
          have HMb := Lib.hid (show MeAt Wn (Iv lb hb9) _ b1 ∧ hb9 ≤ Wn.heap.size from ⟨hma.keep fun k hk => ⟨rfl, by rw [hl9, hh9] at hk; exact hk.resolve_left (Nat.not_lt_zero k)⟩, Nat.le_of_eq hh9.symm⟩)
          clear hma he1 he2 he3 hb hbs hl9 hh9
          obtain ⟨W0, rfl⟩ : ∃ W, W = Wn := ⟨Wn, rfl⟩
          refine hK.out _ _ (HS.out _ HW.out) (fun hHeld => ?_)
          clear hK K
          try simp only [Act.put, List.setIfInBounds_toArray, List.set_cons_zero, List.set_cons_succ]
          refine wpAnyH_ready (rs := [6]) (by kernel_rfl) (by simp) ?_
          refine AllReadyH.cons (by first | (simp only [List.getElem?_toArray, List.getElem?_cons_succ, List.getElem?_cons_zero]; rfl) | rfl) (fun K hK => ?_) AllReadyH.nil
          have fx := cells6T HX.out
          have lx := lt_of_blk HX.out
          go_simp
          have g9 := set6T HX.out (.string (mkB a1.nm)) (.slice A1 a1.ps.length n1) (.slice A2 a1.ts.length n2) (.int .i64 a1.pr) (.slice A4 a1.bd.length c4) (.int .i64 a1.at_)
          obtain ⟨k1, k2⟩ := six_setT (w := W0) (C := X) (.string (mkB a1.nm)) (.slice A1 a1.ps.length n1) (.slice A2 a1.ts.length n2) (.int .i64 a1.pr) (.slice A4 a1.bd.length c4) (.int .i64 a1.at_)
          have hwn := ((((((HW.out).setCell (p := ⟨X, 0, none⟩) hsX (.string (mkB a1.nm))).setCell (p := ⟨X, 1, none⟩) hsX (.slice A1 a1.ps.length n1)).setCell (p := ⟨X, 2, none⟩) hsX (.slice A2 a1.ts.length n2)).setCell (p := ⟨X, 3, none⟩) hsX (.int .i64 a1.pr)).setCell (p := ⟨X, 4, none⟩) hsX (.slice A4 a1.bd.length c4)).setCell (p := ⟨X, 5, none⟩) hsX (.int .i64 a1.at_)
          obtain ⟨Wn, hn⟩ : ∃ W, (((((W0.setCell ⟨X, 0, none⟩ (.string (mkB a1.nm))).setCell ⟨X, 1, none⟩ (.slice A1 a1.ps.length n1)).setCell ⟨X, 2, none⟩ (.slice A2 a1.ts.length n2)).setCell ⟨X, 3, none⟩ (.int .i64 a1.pr)).setCell ⟨X, 4, none⟩ (.slice A4 a1.bd.length c4)).setCell ⟨X, 5, none⟩ (.int .i64 a1.at_) = W := ⟨_, rfl⟩
          rw [hn] at g9 k1 k2 hwn
          rw [hn]
          clear hn fx lx
          replace HW := Lib.hid hwn
          replace HX := Lib.hid g9
          replace HY := Lib.hid ((k1 Y (by omega)).trans HY.out)
          replace HEa := Lib.hid (And.intro (OwnP.keepO HEa.out.1 (fun g hg => k1 g (by have := hge g hg; omega))) (fun x hx => (HEa.out.2 x hx).keep fun k hk => ⟨k1 k (by have := hk.resolve_left (Nat.not_lt_zero k); omega), hk⟩))
          replace HMa := Lib.hid (show MeAt Wn (Iv la ha) _ a1 ∧ ha ≤ Wn.heap.size from ⟨HMa.out.1.keep fun k hk => ⟨k1 k (by have := hk.1; have := hk.2; omega), hk⟩, by rw [k2]; exact HMa.out.2⟩)
          replace HMb := Lib.hid (show MeAt Wn (Iv lb hb9) _ b1 ∧ hb9 ≤ Wn.heap.size from ⟨HMb.out.1.keep fun k hk => ⟨k1 k (by have := hk.1; have := hk.2; omega), hk⟩, by rw [k2]; exact HMb.out.2⟩)
          clear g9 k1 k2 hwn
          obtain ⟨W0, rfl⟩ : ∃ W, W = Wn := ⟨Wn, rfl⟩
          refine hK.out _ _ (HS.out _ HW.out) (fun hHeld => ?_)
          clear hK K
          try simp only [Act.put, List.setIfInBounds_toArray, List.set_cons_zero, List.set_cons_succ]
          refine wpAnyH_ready (rs := [7]) (by kernel_rfl) (by simp) ?_
          refine AllReadyH.cons (by first | (simp only [List.getElem?_toArray, List.getElem?_cons_succ, List.getElem?_cons_zero]; rfl) | rfl) (fun K hK => ?_) AllReadyH.nil
          have fx := cells6T HY.out
          have lx := lt_of_blk HY.out
          go_simp
          have g9 := set6T HY.out (.string (mkB b1.nm)) (.slice B1 b1.ps.length m1) (.slice B2 b1.ts.length m2) (.int .i64 b1.pr) (.slice B4 b1.bd.length d4) (.int .i64 b1.at_)
          obtain ⟨k1, k2⟩ := six_setT (w := W0) (C := Y) (.string (mkB b1.nm)) (.slice B1 b1.ps.length m1) (.slice B2 b1.ts.length m2) (.int .i64 b1.pr) (.slice B4 b1.bd.length d4) (.int .i64 b1.at_)
          have hwn := ((((((HW.out).setCell (p := ⟨Y, 0, none⟩) hsY (.string (mkB b1.nm))).setCell (p := ⟨Y, 1, none⟩) hsY (.slice B1 b1.ps.length m1)).setCell (p := ⟨Y, 2, none⟩) hsY (.slice B2 b1.ts.length m2)).setCell (p := ⟨Y, 3, none⟩) hsY (.int .i64 b1.pr)).setCell (p := ⟨Y, 4, none⟩) hsY (.slice B4 b1.bd.length d4)).setCell (p := ⟨Y, 5, none⟩) hsY (.int .i64 b1.at_)
          obtain ⟨Wn, hn⟩ : ∃ W, (((((W0.setCell ⟨Y, 0, none⟩ (.string (mkB b1.nm))).setCell ⟨Y, 1, none⟩ (.slice B1 b1.ps.length m1)).setCell ⟨Y, 2, none⟩ (.slice B2 b1.ts.length m2)).setCell ⟨Y, 3, none⟩ (.int .i64 b1.pr)).setCell ⟨Y, 4, none⟩ (.slice B4 b1.bd.length d4)).setCell ⟨Y, 5, none⟩ (.int .i64 b1.at_) = W := ⟨_, rfl⟩
          rw [hn] at g9 k1 k2 hwn
          rw [hn]
          clear hn fx lx
          replace HW := Lib.hid hwn
          replace HY := Lib.hid g9
          replace HX := Lib.hid ((k1 X (by omega)).trans HX.out)
          replace HEa := Lib.hid (And.intro (OwnP.keepO HEa.out.1 (fun g hg => k1 g (by have := hge g hg; omega))) (fun x hx => (HEa.out.2 x hx).keep fun k hk => ⟨k1 k (by have := hk.resolve_left (Nat.not_lt_zero k); omega), hk⟩))
          replace HMa := Lib.hid (show MeAt Wn (Iv la ha) _ a1 ∧ ha ≤ Wn.heap.size from ⟨HMa.out.1.keep fun k hk => ⟨k1 k (by have := hk.1; have := hk.2; omega), hk⟩, by rw [k2]; exact HMa.out.2⟩)
          replace HMb := Lib.hid (show MeAt Wn (Iv lb hb9) _ b1 ∧ hb9 ≤ Wn.heap.size from ⟨HMb.out.1.keep fun k hk => ⟨k1 k (by have := hk.1; have := hk.2; omega), hk⟩, by rw [k2]; exact HMb.out.2⟩)
          clear g9 k1 k2 hwn
          obtain ⟨W0, rfl⟩ : ∃ W, W = Wn := ⟨Wn, rfl⟩
          refine hK.out _ _ (HS.out _ HW.out) (fun hHeld => ?_)
          clear hK K
          try simp only [Act.put, List.setIfInBounds_toArray, List.set_cons_zero, List.set_cons_succ]
          refine wpAnyH_done (by kernel_rfl) ?_ _
          refine HKK.out _ _ ?_
          go_wp2_with fail
          go_meet
          exact ⟨X, Y, la, ha, lb, hb9, A1, n1, A2, n2, A4, c4, es, B1, m1, B2, m2, B4, d4, rfl, rfl, Lib.hid ⟨⟨hsX, hsY, hXY⟩, ⟨hla.1, hla.2, hab, hlb.2⟩, hxaX, hxaY, hxbX, hxbY⟩, HX, HY, HMa, HMb, HEa, HE1, Lib.hid hge, HW⟩
    case rest =>
      obtain ⟨wb, rfl⟩ : ∃ w, w = wc := ⟨wc, rfl⟩
      obtain ⟨X, Y, la, ha, lb, hb9, A1, n1, A2, n2, A4, c4, es, B1, m1, B2, m2, B4, d4, rfl, rfl, HNm, HX, HY, HMa, HMb, HEa, HE1, HGe, HB4⟩ := hcut
      have hTb := lt_of_blk H1.out.2
      have HS5 : Hid (∀ w' : World, Below wb.heap.size wb w' → (w'.cell? ⟨X, 0, none⟩ = some (.string (mkB a1.nm)) ∧ w'.cell? ⟨X, 1, none⟩ = some (.slice A1 a1.ps.length n1) ∧ w'.cell? ⟨X, 2, none⟩ = some (.slice A2 a1.ts.length n2) ∧ w'.cell? ⟨X, 3, none⟩ = some (.int .i64 a1.pr) ∧ w'.cell? ⟨X, 4, none⟩ = some (.slice A4 a1.bd.length c4) ∧ w'.cell? ⟨X, 5, none⟩ = some (.int .i64 a1.at_) ∧ w'.cell? ⟨Y, 0, none⟩ = some (.string (mkB b1.nm)) ∧ w'.cell? ⟨Y, 1, none⟩ = some (.slice B1 b1.ps.length m1) ∧ w'.cell? ⟨Y, 2, none⟩ = some (.slice B2 b1.ts.length m2) ∧ w'.cell? ⟨Y, 3, none⟩ = some (.int .i64 b1.pr) ∧ w'.cell? ⟨Y, 4, none⟩ = some (.slice B4 b1.bd.length d4) ∧ w'.cell? ⟨Y, 5, none⟩ = some (.int .i64 b1.at_) ∧ w'.cell? ⟨T, 0, none⟩ = some (.string (mkB a1.nm)) ∧ w'.cell? ⟨T, 1, none⟩ = some (.slice Aq a1.ps.length cq) ∧ w'.cell? ⟨T, 2, none⟩ = some (.slice Ar a1.ts.length cr) ∧ w'.cell? ⟨T, 3, none⟩ = some (.int .i64 a1.pr) ∧ w'.cell? ⟨T, 4, none⟩ = some (.slice As a1.bd.length cs) ∧ w'.cell? ⟨T, 5, none⟩ = some (.int .i64 a1.at_) ∧ w'.cell? ⟨T + 1, 0, none⟩ = some (.string (mkB b1.nm)) ∧ w'.cell? ⟨T + 1, 1, none⟩ = some (.slice Aq' b1.ps.length cq') ∧ w'.cell? ⟨T + 1, 2, none⟩ = some (.slice Ar' b1.ts.length cr') ∧ w'.cell? ⟨T + 1, 3, none⟩ = some (.int .i64 b1.pr) ∧ w'.cell? ⟨T + 1, 4, none⟩ = some (.slice As' b1.bd.length cs') ∧ w'.cell? ⟨T + 1, 5, none⟩ = some (.int .i64 b1.at_))) := Lib.hid (fun w' h => by
        obtain ⟨e0, e1, e2, e3, e4, e5, _⟩ := cells6T ((h.block X (lt_of_blk HX.out)).trans HX.out)
        obtain ⟨g0, g1, g2, g3, g4, g5, _⟩ := cells6T ((h.block Y (lt_of_blk HY.out)).trans HY.out)
        exact ⟨e0, e1, e2, e3, e4, e5, g0, g1, g2, g3, g4, g5, HS.out w' (HB4.out.trans (h.mono HB4.out.size))⟩)
      have HXx := Lib.hid (fun (w' : World) (h : Below wb.heap.size wb w') => show MeAt w' (Lo w'.heap.size) (.agg #[.string (mkB a1.nm), .slice A1 a1.ps.length n1, .slice A2 a1.ts.length n2, .int .i64 a1.pr, .slice A4 a1.bd.length c4, .int .i64 a1.at_]) a1 from HMa.out.1.keep fun k hk => ⟨h.block k (Nat.lt_of_lt_of_le hk.2 HMa.out.2), Nat.lt_of_lt_of_le hk.2 (Nat.le_trans HMa.out.2 h.size)⟩)
      have HYy := Lib.hid (fun (w' : World) (h : Below wb.heap.size wb w') => show MeAt w' (Lo w'.heap.size) (.agg #[.string (mkB b1.nm), .slice B1 b1.ps.length m1, .slice B2 b1.ts.length m2, .int .i64 b1.pr, .slice B4 b1.bd.length d4, .int .i64 b1.at_]) b1 from HMb.out.1.keep fun k hk => ⟨h.block k (Nat.lt_of_lt_of_le hk.2 HMb.out.2), Nat.lt_of_lt_of_le hk.2 (Nat.le_trans HMb.out.2 h.size)⟩)
      have HSx := Lib.hid (fun (w' : World) (h : Below wb.heap.size wb w') => sameM_any a1 b1 _ _ w' (HXx.out w' h) (HYy.out w' h))
      have HSr := Lib.hid (fun (w' : World) (h : Below wb.heap.size wb w') => rsameM_any a1 b1 _ _ w' (H1.out.1.keep fun k hk => ⟨(HB4.out.trans (h.mono HB4.out.size)).block k (hNl k hk), Nat.lt_of_lt_of_le (hNl k hk) (Nat.le_trans HB4.out.size h.size)⟩) (H2.out.1.keep fun k hk => ⟨(HB4.out.trans (h.mono HB4.out.size)).block k (hNl k hk), Nat.lt_of_lt_of_le (hNl k hk) (Nat.le_trans HB4.out.size h.size)⟩))
      go_upto_region 5 with fail
      rename_i KK hKK
      have HKK := Lib.hid hKK
      clear hKK
      refine wp_region_noPanic ?_
      refine wp_region_held_drew (S := (fun w' : World => w'.cell? ⟨X, 0, none⟩ = some (.string (mkB a1.nm)) ∧ w'.cell? ⟨X, 1, none⟩ = some (.slice A1 a1.ps.length n1) ∧ w'.cell? ⟨X, 2, none⟩ = some (.slice A2 a1.ts.length n2) ∧ w'.cell? ⟨X, 3, none⟩ = some (.int .i64 a1.pr) ∧ w'.cell? ⟨X, 4, none⟩ = some (.slice A4 a1.bd.length c4) ∧ w'.cell? ⟨X, 5, none⟩ = some (.int .i64 a1.at_) ∧ w'.cell? ⟨Y, 0, none⟩ = some (.string (mkB b1.nm)) ∧ w'.cell? ⟨Y, 1, none⟩ = some (.slice B1 b1.ps.length m1) ∧ w'.cell? ⟨Y, 2, none⟩ = some (.slice B2 b1.ts.length m2) ∧ w'.cell? ⟨Y, 3, none⟩ = some (.int .i64 b1.pr) ∧ w'.cell? ⟨Y, 4, none⟩ = some (.slice B4 b1.bd.length d4) ∧ w'.cell? ⟨Y, 5, none⟩ = some (.int .i64 b1.at_) ∧ w'.cell? ⟨T, 0, none⟩ = some (.string (mkB a1.nm)) ∧ w'.cell? ⟨T, 1, none⟩ = some (.slice Aq a1.ps.length cq) ∧ w'.cell? ⟨T, 2, none⟩ = some (.slice Ar a1.ts.length cr) ∧ w'.cell? ⟨T, 3, none⟩ = some (.int .i64 a1.pr) ∧ w'.cell? ⟨T, 4, none⟩ = some (.slice As a1.bd.length cs) ∧ w'.cell? ⟨T, 5, none⟩ = some (.int .i64 a1.at_) ∧ w'.cell? ⟨T + 1, 0, none⟩ = some (.string (mkB b1.nm)) ∧ w'.cell? ⟨T + 1, 1, none⟩ = some (.slice Aq' b1.ps.length cq') ∧ w'.cell? ⟨T + 1, 2, none⟩ = some (.slice Ar' b1.ts.length cr') ∧ w'.cell? ⟨T + 1, 3, none⟩ = some (.int .i64 b1.pr) ∧ w'.cell? ⟨T + 1, 4, none⟩ = some (.slice As' b1.bd.length cs') ∧ w'.cell? ⟨T + 1, 5, none⟩ = some (.int .i64 b1.at_))) (by kernel_rfl) (HS5.out _ (Below.refl _ _).drew) (fun hHeld => ?_)
      obtain ⟨W0, hW0⟩ : ∃ W0, wb.drew = W0 := ⟨_, rfl⟩
      have HV := Lib.hid (show Below wb.heap.size wb W0 from by rw [← hW0]; exact (Below.refl _ _).drew)
      rw [hW0] at hHeld ⊢
      clear hW0
      refine wpAnyH_take (i := 0) (v := ?_) (by first | (simp only [List.getElem?_toArray, List.getElem?_cons_zero]; rfl) | rfl) (by kernel_rfl) (by kernel_rfl) (by kernel_rfl) (fun _ _ _ h => h) (Or.inl ⟨by rfl, ?_⟩) (by assumption) ?_
      rotate_left 1
      · (intro w' hSw; (try dsimp only at hSw); go_simp; (try with_reducible rfl))
      try simp only [Act.put, List.setIfInBounds_toArray, List.set_cons_zero, List.set_cons_succ]
      refine wpAnyH_take (i := 1) (v := ?_) (by first | (simp only [List.getElem?_toArray, List.getElem?_cons_succ, List.getElem?_cons_zero]; rfl) | rfl) (by kernel_rfl) (by kernel_rfl) (by kernel_rfl) (fun _ _ _ h => h) (Or.inl ⟨by rfl, ?_⟩) (by assumption) ?_
      rotate_left 1
      · (intro w' hSw; (try dsimp only at hSw); go_simp; (try with_reducible rfl))
      try simp only [Act.put, List.setIfInBounds_toArray, List.set_cons_zero, List.set_cons_succ]
      refine wpAnyH_take (i := 3) (v := ?_) (by first | (simp only [List.getElem?_toArray, List.getElem?_cons_succ, List.getElem?_cons_zero]; rfl) | rfl) (by kernel_rfl) (by kernel_rfl) (by kernel_rfl) (fun _ _ _ h => h) (Or.inl ⟨by rfl, ?_⟩) (by assumption) ?_
      rotate_left 1
      · (intro w' hSw; (try dsimp only at hSw); go_simp; (try with_reducible rfl))
      try simp only [Act.put, List.setIfInBounds_toArray, List.set_cons_zero, List.set_cons_succ]
      refine wpAnyH_take (i := 4) (v := ?_) (by first | (simp only [List.getElem?_toArray, List.getElem?_cons_succ, List.getElem?_cons_zero]; rfl) | rfl) (by kernel_rfl) (by kernel_rfl) (by kernel_rfl) (fun _ _ _ h => h) (Or.inl ⟨by rfl, ?_⟩) (by assumption) ?_
      rotate_left 1
      · (intro w' hSw; (try dsimp only at hSw); go_simp; (try with_reducible rfl))
      try simp only [Act.put, List.setIfInBounds_toArray, List.set_cons_zero, List.set_cons_succ]
      refine wpAnyH_ready (rs := [2]) (by kernel_rfl) (by simp) ?_
      refine AllReadyH.cons (by first | (simp only [List.getElem?_toArray, List.getElem?_cons_succ, List.getElem?_cons_zero]; rfl) | rfl) (fun K hK => ?_) AllReadyH.nil
      go_simp
      refine (HSx.out W0 HV.out).mono ?_
      rintro e Wn ⟨rfl, hb⟩
      dsimp only
      replace HV := Lib.hid (HV.out.trans (hb.mono HV.out.size))
      clear hb
      obtain ⟨W0, rfl⟩ : ∃ W, W = Wn := ⟨Wn, rfl⟩
      refine hK.out _ _ (HS5.out _ HV.out) (fun hHeld => ?_)
      clear hK K
      try simp only [Act.put, List.setIfInBounds_toArray, List.set_cons_zero, List.set_cons_succ]
      refine wpAnyH_ready (rs := [5]) (by kernel_rfl) (by simp) ?_
      refine AllReadyH.cons (by first | (simp only [List.getElem?_toArray, List.getElem?_cons_succ, List.getElem?_cons_zero]; rfl) | rfl) (fun K hK => ?_) AllReadyH.nil
      go_simp
      refine (HSr.out W0 HV.out).mono ?_
      rintro e Wn ⟨rfl, hb⟩
      dsimp only
      replace HV := Lib.hid (HV.out.trans (hb.mono HV.out.size))
      clear hb
      obtain ⟨W0, rfl⟩ : ∃ W, W = Wn := ⟨Wn, rfl⟩
      refine hK.out _ _ (HS5.out _ HV.out) (fun hHeld => ?_)
      clear hK K
      try simp only [Act.put, List.setIfInBounds_toArray, List.set_cons_zero, List.set_cons_succ]
      refine wpAnyH_take (i := 6) (v := ?_) (by first | (simp only [List.getElem?_toArray, List.getElem?_cons_succ, List.getElem?_cons_zero]; rfl) | rfl) (by kernel_rfl) (by kernel_rfl) (by kernel_rfl) (fun _ _ _ h => h) (Or.inl ⟨by rfl, ?_⟩) (by assumption) ?_
      rotate_left 1
      · (intro w' hSw; (try dsimp only at hSw); go_simp; (try with_reducible rfl))
      try simp only [Act.put, List.setIfInBounds_toArray, List.set_cons_zero, List.set_cons_succ]
      refine wpAnyH_take (i := 7) (v := ?_) (by first | (simp only [List.getElem?_toArray, List.getElem?_cons_succ, List.getElem?_cons_zero]; rfl) | rfl) (by kernel_rfl) (by kernel_rfl) (by kernel_rfl) (fun _ _ _ h => h) (Or.inl ⟨by rfl, ?_⟩) (by assumption) ?_
      rotate_left 1
      · (intro w' hSw; (try dsimp only at hSw); go_simp; (try with_reducible rfl))
      try simp only [Act.put, List.setIfInBounds_toArray, List.set_cons_zero, List.set_cons_succ]
      refine wpAnyH_take (i := 8) (v := ?_) (by first | (simp only [List.getElem?_toArray, List.getElem?_cons_succ, List.getElem?_cons_zero]; rfl) | rfl) (by kernel_rfl) (by kernel_rfl) (by kernel_rfl) (fun _ _ _ h => h) (Or.inl ⟨by rfl, ?_⟩) (by assumption) ?_
      rotate_left 1
      · (intro w' hSw; (try dsimp only at hSw); go_simp; (try with_reducible rfl))
      try simp only [Act.put, List.setIfInBounds_toArray, List.set_cons_zero, List.set_cons_succ]
      refine wpAnyH_take (i := 9) (v := ?_) (by first | (simp only [List.getElem?_toArray, List.getElem?_cons_succ, List.getElem?_cons_zero]; rfl) | rfl) (by kernel_rfl) (by kernel_rfl) (by kernel_rfl) (fun _ _ _ h => h) (Or.inl ⟨by rfl, ?_⟩) (by assumption) ?_
      rotate_left 1
      · (intro w' hSw; (try dsimp only at hSw); go_simp; (try with_reducible rfl))
      try simp only [Act.put, List.setIfInBounds_toArray, List.set_cons_zero, List.set_cons_succ]
      refine wpAnyH_ready (rs := [10]) (by kernel_rfl) (by simp) ?_
      refine AllReadyH.cons (by first | (simp only [List.getElem?_toArray, List.getElem?_cons_succ, List.getElem?_cons_zero]; rfl) | rfl) (fun K hK => ?_) AllReadyH.nil
      go_simp
      refine (HOa.out W0 (HB4.out.trans (HV.out.mono HB4.out.size))).mono ?_
      rintro e Wn ⟨v9, he, hma, hb, -⟩
      subst he
      dsimp only
      replace HV := Lib.hid (HV.out.trans (hb.mono HV.out.size))
      have HMo := Lib.hid (show MeAt Wn (Lo Wn.heap.size) v9 a1 from hma.keep fun k hk => ⟨rfl, (hk.resolve_left (Nat.not_lt_zero k)).2⟩)
      clear hb hma
      obtain ⟨W0, rfl⟩ : ∃ W, W = Wn := ⟨Wn, rfl⟩
      refine hK.out _ _ (HS5.out _ HV.out) (fun hHeld => ?_)
      clear hK K
      try simp only [Act.put, List.setIfInBounds_toArray, List.set_cons_zero, List.set_cons_succ]
      refine wpAnyH_ready (rs := [11]) (by kernel_rfl) (by simp) ?_
      refine AllReadyH.cons (by first | (simp only [List.getElem?_toArray, List.getElem?_cons_succ, List.getElem?_cons_zero]; rfl) | rfl) (fun K hK => ?_) AllReadyH.nil
      go_simp
      refine (sameM_any a1 a1 _ _ W0 (HXx.out W0 HV.out) HMo.out).mono ?_
      rintro e Wn ⟨he, hb⟩
      rw [sameM_refl] at he
      subst he
      dsimp only
      replace HV := Lib.hid (HV.out.trans (hb.mono HV.out.size))
      clear hb HMo
      obtain ⟨W0, rfl⟩ : ∃ W, W = Wn := ⟨Wn, rfl⟩
      refine hK.out _ _ (HS5.out _ HV.out) (fun hHeld => ?_)
      clear hK K
      try simp only [Act.put, List.setIfInBounds_toArray, List.set_cons_zero, List.set_cons_succ]
      refine wpAnyH_take (i := 12) (v := ?_) (by first | (simp only [List.getElem?_toArray, List.getElem?_cons_succ, List.getElem?_cons_zero]; rfl) | rfl) (by kernel_rfl) (by kernel_rfl) (by kernel_rfl) (fun _ _ _ h => h) (Or.inl ⟨by rfl, ?_⟩) (by assumption) ?_
      rotate_left 1
      · (intro w' hSw; (try dsimp only at hSw); go_simp; (try with_reducible rfl))
      try simp only [Act.put, List.setIfInBounds_toArray, List.set_cons_zero, List.set_cons_succ]
      refine wpAnyH_take (i := 13) (v := ?_) (by first | (simp only [List.getElem?_toArray, List.getElem?_cons_succ, List.getElem?_cons_zero]; rfl) | rfl) (by kernel_rfl) (by kernel_rfl) (by kernel_rfl) (fun _ _ _ h => h) (Or.inl ⟨by rfl, ?_⟩) (by assumption) ?_
      rotate_left 1
      · (intro w' hSw; (try dsimp only at hSw); go_simp; (try with_reducible rfl))
      try simp only [Act.put, List.setIfInBounds_toArray, List.set_cons_zero, List.set_cons_succ]
      refine wpAnyH_done (by kernel_rfl) ?_ _
      refine HKK.out _ _ ?_
      obtain ⟨Ax, ax, Bx, bx, Cx, cx, hv, -, -, -, -, hbl, hbc, -, -, hnd, -⟩ := H1.out.1.ex
      simp only [Value.agg.injEq, Array.mk.injEq, List.cons.injEq, Value.slice.injEq] at hv
      obtain ⟨-, -, -, -, ⟨rfl, -, rfl⟩, -⟩ := hv
      have HAl := Lib.hid (rallN_any (cntL a1.bd) a1.bd As cs wa.heap.size W0 (Nat.le_refl _) hm1.2.2.1 (hnd.keep fun k hk => ⟨(HB4.out.trans (HV.out.mono HB4.out.size)).block k (hNl k hk), hNl k hk⟩) (Nat.le_trans HB4.out.size HV.out.size) hbl)
      have fT := cells6T (((HB4.out.trans (HV.out.mono HB4.out.size)).block T (by omega)).trans H1.out.2)
      have lT : T < W0.heap.size := Nat.lt_of_lt_of_le (by omega) (Nat.le_trans HB4.out.size HV.out.size)
      clear HSx HSr HS5 HYy hnd
      go_upto_region 10 with (go_at_call 15; refine HAl.out.mono ?_; rintro e W2 ⟨hb2, L, AL, cL, rfl, hL1, hL2⟩; have HV2 := Lib.hid (HV.out.trans (hb2.mono HV.out.size)))
      obtain ⟨P, hP⟩ : ∃ P, W2.heap.size = P := ⟨_, rfl⟩
      obtain ⟨W5, hW5⟩ : ∃ W5, ((((W2.alloc (.cells #[.slice AL L.length cL] 23)).alloc (.cells #[.int .i64 0] 3)).alloc (.cells #[.bool true] 4)).alloc (.cells #[.int .i64 (L.length : Int)] 3)) = W5 := ⟨_, rfl⟩
      obtain ⟨p0, p1, p2, p3, hb5, hs5⟩ := allocs4 W2 _ _ _ _ W5 hW5
      rw [hP] at p0 p1 p2 p3
      try simp only [hW5]
      try simp only [hP]
      clear hW5
      have hLl : L.length = cntL a1.bd := by
        have := congrArg List.length hL1
        rw [List.length_map] at this
        rw [this]
        exact allL_len _ _ (Nat.le_refl _)
      have hc9 := hm1.2.2.1
      have hrd := ownN_rd hL2
      rw [hP] at hrd
      have g0 := (cells1T p0).1
      have g3 := cells1T p3
      have l3 := lt_of_blk p3
      have l0 := lt_of_blk p0
      by_cases ha0 : 0 ≤ at_
      case neg =>
        go_upto_region 12 with fail
        have hb6 : Below W2.heap.size W2 W5 := hb5
        have hws : WsI W5 P (P + 1) AL cL L 0 (L.length) := ⟨p0, by simpa using p1, p2, p3, hrd.below (by have := hb6; rwa [hP] at this) (Nat.le_refl _), Nat.lt_succ_self _⟩
        have HV6 := Lib.hid (HV2.out.trans (hb6.mono (Nat.le_trans (Nat.le_of_eq rfl) HV2.out.size)))
        have hwk := walkM_any a1 (.agg #[.string (mkB a1.nm), .slice A1 a1.ps.length n1, .slice A2 a1.ts.length n2, .int .i64 a1.pr, .slice A4 a1.bd.length c4, .int .i64 a1.at_]) AL cL P (P + 1) (L.length) L W5 (HMa.out.1.keep fun k hk => ⟨HV6.out.block k (Nat.lt_of_lt_of_le hk.2 HMa.out.2), show k < P by have := HMa.out.2; have := HV2.out.size; have := hk.2; omega⟩) hws (Nat.le_refl _) (by rw [hLl]; exact hc9) hL1
        have HXw := Lib.hid ((HV6.out.block X (lt_of_blk HX.out)).trans HX.out)
        have fX := cells6T HXw.out
        have lX := lt_of_blk HXw.out
        by_cases hb0 : 0 < a1.bd.length
        · obtain ⟨y, es', rfl⟩ : ∃ y l, es = y :: l := by
            cases es with
            | nil =>
              have := congrArg List.length HE1.out
              simp only [List.map_nil, List.length_nil] at this
              omega
            | cons y l => exact ⟨y, l, rfl⟩
          obtain ⟨g, rfl⟩ : ∃ g, A4 = some ⟨g, 0, none⟩ := by
            rcases HEa.out.1.2 with ⟨_, e2⟩ | ⟨g, cap, cur, e1, _⟩
            · simp at e2
            · injection e1 with e1
              exact ⟨g, e1⟩
          have hbd : a1.bd = y.1 :: es'.map (fun x => x.1) := HE1.out.symm
          have hl9 : a1.bd.length = (y :: es').length := by rw [hbd]; simp
          have hGg := HGe.out g rfl
          have hEa := HEa.out
          rw [hl9] at hEa
          have HBD := Lib.hid hbd
          have hV6s := HV6.out.size
          have hV2s := HV2.out.size
          have hHa := HMa.out.2
          have HT7 : Hid (∀ W7, OvQ (P + 1) W5 W7 → W7.cell? ⟨g, 5, none⟩ = some (.int .i64 y.1.at_) ∧ W7.frozen? ⟨g, 5, none⟩ = false ∧ g < W7.heap.size ∧ la ≤ g ∧ MeAt (W7.setCell ⟨g, 5, none⟩ (.int .i64 (wrap64 (y.1.at_ + 1)))) (Lo W7.heap.size) (.agg #[.string (mkB a1.nm), .slice A1 a1.ps.length n1, .slice A2 a1.ts.length n2, .int .i64 a1.pr, .slice (some ⟨g, 0, none⟩) a1.bd.length c4, .int .i64 a1.at_]) { a1 with bd := withAt y.1 (wrap64 (y.1.at_ + 1)) :: es'.map fun x => x.1 }) := Lib.hid (fun W7 hq => by
            have hq7s := hq.size
            have hkk : ∀ k, k < ha → W7.heap[k]? = wb.heap[k]? := fun k hk => (hq.block k (by omega) (by omega) (by omega)).trans (HV6.out.block k (by omega))
            have hPW : wb.heap.size ≤ W7.heap.size := by omega
            refine turnT (la := la) (x := y) (es := es') _ (HMa.out.1.keep fun k hk => ⟨hkk k hk.2, by show k < W7.heap.size; have := hk.2; omega⟩) (OwnP.keepO hEa.1 fun k hk => ?_) (fun z hz => (hEa.2 z hz).keep fun k hk => ?_) hbd
            · have e : g = k := by injection hk
              subst e
              exact hkk g hGg.2
            · rcases hk with h | ⟨h1, h2, h3⟩
              · exact absurd h (Nat.not_lt_zero k)
              · exact ⟨hkk k h2, .inr ⟨h1, by omega, h3⟩⟩)
          have hq1 : (0 : Int) < (a1.bd.length : Int) := by omega
          clear hbd hl9 hEa hb0
          go_upto_region 15 with (go_at_call 21; refine hwk.mono ?_; rintro e W7 ⟨rfl, hw7, hq7⟩; have HW7 := Lib.hid hw7; have HQ7 := Lib.hid hq7; have fX7 := cells6T ((hq7.block X lX (by have := lt_of_blk HX.out; have := HV2.out.size; omega) (by have := lt_of_blk HX.out; have := HV2.out.size; omega)).trans HXw.out); have lX7 := Nat.lt_of_lt_of_le lX hq7.size; obtain ⟨c5, z5, l5, -, hme7⟩ := HT7.out W7 hq7; have HME7 := Lib.hid hme7; clear hwk hw7 hq7 fX lX hme7)
          obtain ⟨n9, hn9⟩ : ∃ n, min (cntL a1.bd) (L.length + 1) = n := ⟨_, rfl⟩
          have hXl := lt_of_blk HX.out
          have hgX : X ≠ g := by have := HNm.out.2.2.1; omega
          have hq7s := HQ7.out.size
          obtain ⟨W8, hW8⟩ : ∃ W, W7.setCell ⟨g, 5, none⟩ (.int .i64 (wrap64 (y.1.at_ + 1))) = W := ⟨_, rfl⟩
          have hk8 : ∀ k, k ≠ g → W8.heap[k]? = W7.heap[k]? := fun k hk => by rw [← hW8]; exact Below.heap_setCell W7 ⟨g, 5, none⟩ _ k hk
          have hs8 : W8.heap.size = W7.heap.size := by rw [← hW8]; simp [World.setCell]
          obtain ⟨xm, hxm⟩ : ∃ m : Me, { a1 with bd := withAt y.1 (wrap64 (y.1.at_ + 1)) :: es'.map fun x => x.1 } = m := ⟨_, rfl⟩
          have hme8 := HME7.out
          rw [hW8, hxm] at hme8
          have hgP : g < P := by have := hGg.2; omega
          have HP0 := Lib.hid ((hk8 _ (by omega)).trans HW7.out.l)
          have HP1 := Lib.hid ((hk8 _ (by omega)).trans HW7.out.n)
          rw [hn9] at HP1
          have HP2 := Lib.hid ((hk8 _ (by omega)).trans HW7.out.s)
          have HP3 := Lib.hid ((hk8 _ (by omega)).trans HW7.out.st)
          have HXz := Lib.hid ((hk8 X hgX).trans ((HQ7.out.block X (lt_of_blk HXw.out) (by omega) (by omega)).trans HXw.out))
          have hTX : T < W5.heap.size := by have := HB4.out.size; have := HV6.out.size; omega
          have hTg : T ≠ g := by have := HNm.out.2.1.1; have := hGg.1; omega
          have HTz := Lib.hid ((hk8 T hTg).trans ((HQ7.out.block T hTX (by have := HB4.out.size; omega) (by have := HB4.out.size; omega)).trans (((HB4.out.trans (HV6.out.mono HB4.out.size)).block T (by omega)).trans H1.out.2)))
          have hAg : wa.heap.size ≤ g := by have := HNm.out.2.1.1; have := hGg.1; omega
          have HAz := Lib.hid (show Below wa.heap.size wa W8 from by rw [← hW8]; exact ((HB4.out.trans (HV6.out.mono HB4.out.size)).trans (HQ7.out.below (Nat.le_trans HB4.out.size HV6.out.size) (by have := HB4.out.size; omega))).setCell (p := ⟨g, 5, none⟩) hAg _)
          have HXm := Lib.hid (fun (w' : World) (h : Below W8.heap.size W8 w') => show MeAt w' (Lo w'.heap.size) (.agg #[.string (mkB a1.nm), .slice A1 a1.ps.length n1, .slice A2 a1.ts.length n2, .int .i64 a1.pr, .slice (some ⟨g, 0, none⟩) a1.bd.length c4, .int .i64 a1.at_]) xm from hme8.keep fun k hk => ⟨h.block k (by rw [hs8]; exact hk), by have := h.size; rw [hs8] at this; exact Nat.lt_of_lt_of_le hk this⟩)
          have hxs : sameM xm a1 = true := by rw [← hxm]; exact sameM_withAt a1 y.1 _ _ HBD.out
          have hf : decide (cntL a1.bd ≤ L.length) = ((((L.length) : Nat) : Int) == (L.length : Int)) := by
            rw [Bool.eq_iff_iff]
            simp only [decide_eq_true_eq, beq_iff_eq]
            have hle9 : L.length ≤ L.length := Nat.le_refl _
            have h9 := hLl
            constructor <;> intro h8 <;> first | trivial | omega
          have hmn : min ((((L.length) : Nat) : Int) + 1) (L.length : Int) = (n9 : Int) := by rw [← hn9, hLl]; omega
          have hTa : T ≤ wa.heap.size := by omega
          have hwr : IntKind.i64.wrap ((((L.length) : Nat) : Int) + 1) = (((L.length) : Nat) : Int) + 1 := by
            have hle9 : L.length ≤ L.length := Nat.le_refl _
            have h9 := hLl
            rw [IntKind.wrap_i64]; omega
          rw [hW8]
          have HLl := Lib.hid hLl
          clear hLl hW8 hk8 hxm hme8 hq1 c5 z5 l5 HME7 HT7 HBD hs8 hgX hTg hAg hgP hGg hV6s hHa
          go_upto_region 15 with fail
          rename_i KK hKK
          have HKK := Lib.hid hKK
          clear hKK
          have HSz : Hid (∀ w' : World, Below W8.heap.size W8 w' → (w'.cell? ⟨P + 1 + 1, 0, none⟩ = some (.bool true) ∧ w'.cell? ⟨P + 1 + 1 + 1, 0, none⟩ = some (.int .i64 ((L.length : Nat) : Int)) ∧ w'.cell? ⟨P, 0, none⟩ = some (.slice AL L.length cL) ∧ w'.cell? ⟨P + 1, 0, none⟩ = some (.int .i64 (n9 : Int)) ∧ w'.cell? ⟨X, 0, none⟩ = some (.string (mkB a1.nm)) ∧ w'.cell? ⟨X, 1, none⟩ = some (.slice A1 a1.ps.length n1) ∧ w'.cell? ⟨X, 2, none⟩ = some (.slice A2 a1.ts.length n2) ∧ w'.cell? ⟨X, 3, none⟩ = some (.int .i64 a1.pr) ∧ w'.cell? ⟨X, 4, none⟩ = some (.slice (some ⟨g, 0, none⟩) a1.bd.length c4) ∧ w'.cell? ⟨X, 5, none⟩ = some (.int .i64 a1.at_) ∧ w'.cell? ⟨T, 0, none⟩ = some (.string (mkB a1.nm)) ∧ w'.cell? ⟨T, 1, none⟩ = some (.slice Aq a1.ps.length cq) ∧ w'.cell? ⟨T, 2, none⟩ = some (.slice Ar a1.ts.length cr) ∧ w'.cell? ⟨T, 3, none⟩ = some (.int .i64 a1.pr) ∧ w'.cell? ⟨T, 4, none⟩ = some (.slice As a1.bd.length cs) ∧ w'.cell? ⟨T, 5, none⟩ = some (.int .i64 a1.at_))) := Lib.hid (fun w' h => by
            obtain ⟨b2, _⟩ := cells1T ((h.block _ (lt_of_blk HP2.out)).trans HP2.out)
            obtain ⟨b3, _⟩ := cells1T ((h.block _ (lt_of_blk HP3.out)).trans HP3.out)
            obtain ⟨b0, _⟩ := cells1T ((h.block _ (lt_of_blk HP0.out)).trans HP0.out)
            obtain ⟨b1, _⟩ := cells1T ((h.block _ (lt_of_blk HP1.out)).trans HP1.out)
            obtain ⟨e0, e1, e2, e3, e4, e5, _⟩ := cells6T ((h.block X (lt_of_blk HXz.out)).trans HXz.out)
            obtain ⟨g0, g1, g2, g3, g4, g5, _⟩ := cells6T ((h.block T (lt_of_blk HTz.out)).trans HTz.out)
            exact ⟨b2, b3, b0, b1, e0, e1, e2, e3, e4, e5, g0, g1, g2, g3, g4, g5⟩)
          refine wp_region_noPanic ?_
          refine wp_region_held_drew (S := (fun w' : World => w'.cell? ⟨P + 1 + 1, 0, none⟩ = some (.bool true) ∧ w'.cell? ⟨P + 1 + 1 + 1, 0, none⟩ = some (.int .i64 ((L.length : Nat) : Int)) ∧ w'.cell? ⟨P, 0, none⟩ = some (.slice AL L.length cL) ∧ w'.cell? ⟨P + 1, 0, none⟩ = some (.int .i64 (n9 : Int)) ∧ w'.cell? ⟨X, 0, none⟩ = some (.string (mkB a1.nm)) ∧ w'.cell? ⟨X, 1, none⟩ = some (.slice A1 a1.ps.length n1) ∧ w'.cell? ⟨X, 2, none⟩ = some (.slice A2 a1.ts.length n2) ∧ w'.cell? ⟨X, 3, none⟩ = some (.int .i64 a1.pr) ∧ w'.cell? ⟨X, 4, none⟩ = some (.slice (some ⟨g, 0, none⟩) a1.bd.length c4) ∧ w'.cell? ⟨X, 5, none⟩ = some (.int .i64 a1.at_) ∧ w'.cell? ⟨T, 0, none⟩ = some (.string (mkB a1.nm)) ∧ w'.cell? ⟨T, 1, none⟩ = some (.slice Aq a1.ps.length cq) ∧ w'.cell? ⟨T, 2, none⟩ = some (.slice Ar a1.ts.length cr) ∧ w'.cell? ⟨T, 3, none⟩ = some (.int .i64 a1.pr) ∧ w'.cell? ⟨T, 4, none⟩ = some (.slice As a1.bd.length cs) ∧ w'.cell? ⟨T, 5, none⟩ = some (.int .i64 a1.at_))) (by kernel_rfl) (HSz.out _ (Below.refl _ _).drew) (fun hHeld => ?_)
          obtain ⟨W0, hW0⟩ : ∃ W0, W8.drew = W0 := ⟨_, rfl⟩
          have HVz := Lib.hid (show Below W8.heap.size W8 W0 from by rw [← hW0]; exact (Below.refl _ _).drew)
          rw [hW0] at hHeld ⊢
          clear hW0
          refine wpAnyH_take (i := 0) (v := ?_) (by first | (simp only [List.getElem?_toArray, List.getElem?_cons_zero]; rfl) | rfl) (by kernel_rfl) (by kernel_rfl) (by kernel_rfl) (fun _ _ _ h => h) (Or.inl ⟨by rfl, ?_⟩) (by assumption) ?_
          rotate_left 1
          · (intro w' hSw; (try dsimp only at hSw); go_simp; (try with_reducible rfl))
          try simp only [Act.put, List.setIfInBounds_toArray, List.set_cons_zero, List.set_cons_succ]
          refine wpAnyH_take (i := 1) (v := ?_) (by first | (simp only [List.getElem?_toArray, List.getElem?_cons_succ, List.getElem?_cons_zero]; rfl) | rfl) (by kernel_rfl) (by kernel_rfl) (by kernel_rfl) (fun _ _ _ h => h) (Or.inl ⟨by rfl, ?_⟩) (by assumption) ?_
          rotate_left 1
          · (intro w' hSw; (try dsimp only at hSw); go_simp; (try with_reducible rfl))
          try simp only [Act.put, List.setIfInBounds_toArray, List.set_cons_zero, List.set_cons_succ]
          refine wpAnyH_take (i := 2) (v := ?_) (by first | (simp only [List.getElem?_toArray, List.getElem?_cons_succ, List.getElem?_cons_zero]; rfl) | rfl) (by kernel_rfl) (by kernel_rfl) (by kernel_rfl) (fun _ _ _ h => h) (Or.inl ⟨by rfl, ?_⟩) (by assumption) ?_
          rotate_left 1
          · (intro w' hSw; (try dsimp only at hSw); go_simp; (try with_reducible rfl))
          try simp only [Act.put, List.setIfInBounds_toArray, List.set_cons_zero, List.set_cons_succ]
          refine wpAnyH_take (i := 3) (v := ?_) (by first | (simp only [List.getElem?_toArray, List.getElem?_cons_succ, List.getElem?_cons_zero]; rfl) | rfl) (by kernel_rfl) (by kernel_rfl) (by kernel_rfl) (fun _ _ _ h => h) (Or.inl ⟨by rfl, ?_⟩) (by assumption) ?_
          rotate_left 1
          · (intro w' hSw; (try dsimp only at hSw); go_simp; (try with_reducible rfl))
          try simp only [Act.put, List.setIfInBounds_toArray, List.set_cons_zero, List.set_cons_succ]
          refine wpAnyH_take (i := 4) (v := ?_) (by first | (simp only [List.getElem?_toArray, List.getElem?_cons_succ, List.getElem?_cons_zero]; rfl) | rfl) (by kernel_rfl) (by kernel_rfl) (by kernel_rfl) (fun _ _ _ h => h) (Or.inl ⟨by rfl, ?_⟩) (by assumption) ?_
          rotate_left 1
          · (intro w' hSw; (try dsimp only at hSw); go_simp; (try with_reducible rfl))
          try simp only [Act.put, List.setIfInBounds_toArray, List.set_cons_zero, List.set_cons_succ]
          refine wpAnyH_take (i := 5) (v := ?_) (by first | (simp only [List.getElem?_toArray, List.getElem?_cons_succ, List.getElem?_cons_zero]; rfl) | rfl) (by kernel_rfl) (by kernel_rfl) (by kernel_rfl) (fun _ _ _ h => h) (Or.inl ⟨by rfl, ?_⟩) (by assumption) ?_
          rotate_left 1
          · (intro w' hSw; (try dsimp only at hSw); go_simp; (try with_reducible rfl))
          try simp only [Act.put, List.setIfInBounds_toArray, List.set_cons_zero, List.set_cons_succ]
          refine wpAnyH_take (i := 6) (v := ?_) (by first | (simp only [List.getElem?_toArray, List.getElem?_cons_succ, List.getElem?_cons_zero]; rfl) | rfl) (by kernel_rfl) (by kernel_rfl) (by kernel_rfl) (fun _ _ _ h => h) (Or.inl ⟨by rfl, ?_⟩) (by assumption) ?_
          rotate_left 1
          · (intro w' hSw; (try dsimp only at hSw); go_simp; (try with_reducible rfl))
          try simp only [Act.put, List.setIfInBounds_toArray, List.set_cons_zero, List.set_cons_succ]
          refine wpAnyH_take (i := 7) (v := ?_) (by first | (simp only [List.getElem?_toArray, List.getElem?_cons_succ, List.getElem?_cons_zero]; rfl) | rfl) (by kernel_rfl) (by kernel_rfl) (by kernel_rfl) (fun _ _ _ h => h) (Or.inl ⟨by rfl, ?_⟩) (by assumption) ?_
          rotate_left 1
          · (intro w' hSw; (try dsimp only at hSw); go_simp; (try with_reducible rfl))
          try simp only [Act.put, List.setIfInBounds_toArray, List.set_cons_zero, List.set_cons_succ]
          refine wpAnyH_take (i := 8) (v := ?_) (by first | (simp only [List.getElem?_toArray, List.getElem?_cons_succ, List.getElem?_cons_zero]; rfl) | rfl) (by kernel_rfl) (by kernel_rfl) (by kernel_rfl) (fun _ _ _ h => h) (Or.inl ⟨by rfl, ?_⟩) (by assumption) ?_
          rotate_left 1
          · (intro w' hSw; (try dsimp only at hSw); go_simp; (try with_reducible rfl))
          try simp only [Act.put, List.setIfInBounds_toArray, List.set_cons_zero, List.set_cons_succ]
          refine wpAnyH_take (i := 9) (v := ?_) (by first | (simp only [List.getElem?_toArray, List.getElem?_cons_succ, List.getElem?_cons_zero]; rfl) | rfl) (by kernel_rfl) (by kernel_rfl) (by kernel_rfl) (fun _ _ _ h => h) (Or.inl ⟨by rfl, ?_⟩) (by assumption) ?_
          rotate_left 1
          · (intro w' hSw; (try dsimp only at hSw); go_simp; (try with_reducible rfl))
          try simp only [Act.put, List.setIfInBounds_toArray, List.set_cons_zero, List.set_cons_succ]
          refine wpAnyH_take (i := 10) (v := ?_) (by first | (simp only [List.getElem?_toArray, List.getElem?_cons_succ, List.getElem?_cons_zero]; rfl) | rfl) (by kernel_rfl) (by kernel_rfl) (by kernel_rfl) (fun _ _ _ h => h) (Or.inl ⟨by rfl, ?_⟩) (by assumption) ?_
          rotate_left 1
          · (intro w' hSw; (try dsimp only at hSw); go_simp; (try with_reducible rfl))
          try simp only [Act.put, List.setIfInBounds_toArray, List.set_cons_zero, List.set_cons_succ]
          refine wpAnyH_take (i := 11) (v := ?_) (by first | (simp only [List.getElem?_toArray, List.getElem?_cons_succ, List.getElem?_cons_zero]; rfl) | rfl) (by kernel_rfl) (by kernel_rfl) (by kernel_rfl) (fun _ _ _ h => h) (Or.inl ⟨by rfl, ?_⟩) (by assumption) ?_
          rotate_left 1
          · (intro w' hSw; (try dsimp only at hSw); go_simp; (try with_reducible rfl))
          try simp only [Act.put, List.setIfInBounds_toArray, List.set_cons_zero, List.set_cons_succ]
          refine wpAnyH_take (i := 12) (v := ?_) (by first | (simp only [List.getElem?_toArray, List.getElem?_cons_succ, List.getElem?_cons_zero]; rfl) | rfl) (by kernel_rfl) (by kernel_rfl) (by kernel_rfl) (fun _ _ _ h => h) (Or.inl ⟨by rfl, ?_⟩) (by assumption) ?_
          rotate_left 1
          · (intro w' hSw; (try dsimp only at hSw); go_simp; (try with_reducible rfl))
          try simp only [Act.put, List.setIfInBounds_toArray, List.set_cons_zero, List.set_cons_succ]
          refine wpAnyH_take (i := 13) (v := ?_) (by first | (simp only [List.getElem?_toArray, List.getElem?_cons_succ, List.getElem?_cons_zero]; rfl) | rfl) (by kernel_rfl) (by kernel_rfl) (by kernel_rfl) (fun _ _ _ h => h) (Or.inl ⟨by rfl, ?_⟩) (by assumption) ?_
          rotate_left 1
          · (intro w' hSw; (try dsimp only at hSw); go_simp; (try with_reducible rfl))
          try simp only [Act.put, List.setIfInBounds_toArray, List.set_cons_zero, List.set_cons_succ]
          refine wpAnyH_take (i := 14) (v := ?_) (by first | (simp only [List.getElem?_toArray, List.getElem?_cons_succ, List.getElem?_cons_zero]; rfl) | rfl) (by kernel_rfl) (by kernel_rfl) (by kernel_rfl) (fun _ _ _ h => h) (Or.inl ⟨by rfl, ?_⟩) (by assumption) ?_
          rotate_left 1
          · (intro w' hSw; (try dsimp only at hSw); go_simp; (try with_reducible rfl))
          try simp only [Act.put, List.setIfInBounds_toArray, List.set_cons_zero, List.set_cons_succ]
          refine wpAnyH_take (i := 15) (v := ?_) (by first | (simp only [List.getElem?_toArray, List.getElem?_cons_succ, List.getElem?_cons_zero]; rfl) | rfl) (by kernel_rfl) (by kernel_rfl) (by kernel_rfl) (fun _ _ _ h => h) (Or.inl ⟨by rfl, ?_⟩) (by assumption) ?_
          rotate_left 1
          · (intro w' hSw; (try dsimp only at hSw); go_simp; (try with_reducible rfl))
          try simp only [Act.put, List.setIfInBounds_toArray, List.set_cons_zero, List.set_cons_succ]
          refine wpAnyH_take (i := 16) (v := ?_) (by first | (simp only [List.getElem?_toArray, List.getElem?_cons_succ, List.getElem?_cons_zero]; rfl) | rfl) (by kernel_rfl) (by kernel_rfl) (by kernel_rfl) (fun _ _ _ h => h) (Or.inl ⟨by rfl, ?_⟩) (by assumption) ?_
          rotate_left 1
          · (intro w' hSw; (try dsimp only at hSw); go_simp; (try with_reducible rfl))
          try simp only [Act.put, List.setIfInBounds_toArray, List.set_cons_zero, List.set_cons_succ]
          refine wpAnyH_take (i := 17) (v := ?_) (by first | (simp only [List.getElem?_toArray, List.getElem?_cons_succ, List.getElem?_cons_zero]; rfl) | rfl) (by kernel_rfl) (by kernel_rfl) (by kernel_rfl) (fun _ _ _ h => h) (Or.inl ⟨by rfl, ?_⟩) (by assumption) ?_
          rotate_left 1
          · (intro w' hSw; (try dsimp only at hSw); go_simp; (try with_reducible rfl))
          try simp only [Act.put, List.setIfInBounds_toArray, List.set_cons_zero, List.set_cons_succ]
          refine wpAnyH_take (i := 18) (v := ?_) (by first | (simp only [List.getElem?_toArray, List.getElem?_cons_succ, List.getElem?_cons_zero]; rfl) | rfl) (by kernel_rfl) (by kernel_rfl) (by kernel_rfl) (fun _ _ _ h => h) (Or.inl ⟨by rfl, ?_⟩) (by assumption) ?_
          rotate_left 1
          · (intro w' hSw; (try dsimp only at hSw); go_simp; (try with_reducible rfl))
          try simp only [Act.put, List.setIfInBounds_toArray, List.set_cons_zero, List.set_cons_succ]
          refine wpAnyH_take (i := 19) (v := ?_) (by first | (simp only [List.getElem?_toArray, List.getElem?_cons_succ, List.getElem?_cons_zero]; rfl) | rfl) (by kernel_rfl) (by kernel_rfl) (by kernel_rfl) (fun _ _ _ h => h) (Or.inl ⟨by rfl, ?_⟩) (by assumption) ?_
          rotate_left 1
          · (intro w' hSw; (try dsimp only at hSw); go_simp; (try with_reducible rfl))
          try simp only [Act.put, List.setIfInBounds_toArray, List.set_cons_zero, List.set_cons_succ]
          refine wpAnyH_take (i := 20) (v := ?_) (by first | (simp only [List.getElem?_toArray, List.getElem?_cons_succ, List.getElem?_cons_zero]; rfl) | rfl) (by kernel_rfl) (by kernel_rfl) (by kernel_rfl) (fun _ _ _ h => h) (Or.inl ⟨by rfl, ?_⟩) (by assumption) ?_
          rotate_left 1
          · (intro w' hSw; (try dsimp only at hSw); go_simp; (try with_reducible rfl))
          try simp only [Act.put, List.setIfInBounds_toArray, List.set_cons_zero, List.set_cons_succ]
          refine wpAnyH_ready (rs := [21]) (by kernel_rfl) (by simp) ?_
          refine AllReadyH.cons (by first | (simp only [List.getElem?_toArray, List.getElem?_cons_succ, List.getElem?_cons_zero]; rfl) | rfl) (fun K hK => ?_) AllReadyH.nil
          go_simp
          refine (HOa.out W0 (HAz.out.trans (HVz.out.mono HAz.out.size))).mono ?_
          rintro e Wn ⟨v9, he, hma, hb, -⟩
          subst he
          dsimp only
          replace HVz := Lib.hid (HVz.out.trans (hb.mono HVz.out.size))
          have HMo := Lib.hid (show MeAt Wn (Lo Wn.heap.size) v9 a1 from hma.keep fun k hk => ⟨rfl, (hk.resolve_left (Nat.not_lt_zero k)).2⟩)
          clear hb hma
          obtain ⟨W0, rfl⟩ : ∃ W, W = Wn := ⟨Wn, rfl⟩
          refine hK.out _ _ (HSz.out _ HVz.out) (fun hHeld => ?_)
          clear hK K
          try simp only [Act.put, List.setIfInBounds_toArray, List.set_cons_zero, List.set_cons_succ]
          refine wpAnyH_ready (rs := [22]) (by kernel_rfl) (by simp) ?_
          refine AllReadyH.cons (by first | (simp only [List.getElem?_toArray, List.getElem?_cons_succ, List.getElem?_cons_zero]; rfl) | rfl) (fun K hK => ?_) AllReadyH.nil
          go_simp
          refine (sameM_any xm a1 _ _ W0 (HXm.out W0 HVz.out) HMo.out).mono ?_
          rintro e Wn ⟨he, hb⟩
          rw [hxs] at he
          subst he
          dsimp only
          replace HVz := Lib.hid (HVz.out.trans (hb.mono HVz.out.size))
          clear hb HMo
          obtain ⟨W0, rfl⟩ : ∃ W, W = Wn := ⟨Wn, rfl⟩
          refine hK.out _ _ (HSz.out _ HVz.out) (fun hHeld => ?_)
          clear hK K
          try simp only [Act.put, List.setIfInBounds_toArray, List.set_cons_zero, List.set_cons_succ]
          refine wpAnyH_take (i := 23) (v := ?_) (by first | (simp only [List.getElem?_toArray, List.getElem?_cons_succ, List.getElem?_cons_zero]; rfl) | rfl) (by kernel_rfl) (by kernel_rfl) (by kernel_rfl) (fun _ _ _ h => h) (Or.inl ⟨by rfl, ?_⟩) (by assumption) ?_
          rotate_left 1
          · (intro w' hSw; (try dsimp only at hSw); go_simp; (try with_reducible rfl))
          try simp only [Act.put, List.setIfInBounds_toArray, List.set_cons_zero, List.set_cons_succ]
          refine wpAnyH_take (i := 24) (v := ?_) (by first | (simp only [List.getElem?_toArray, List.getElem?_cons_succ, List.getElem?_cons_zero]; rfl) | rfl) (by kernel_rfl) (by kernel_rfl) (by kernel_rfl) (fun _ _ _ h => h) (Or.inl ⟨by rfl, ?_⟩) (by assumption) ?_
          rotate_left 1
          · (intro w' hSw; (try dsimp only at hSw); go_simp; (try with_reducible rfl))
          try simp only [Act.put, List.setIfInBounds_toArray, List.set_cons_zero, List.set_cons_succ]
          refine wpAnyH_done (by kernel_rfl) ?_ _
          refine HKK.out _ _ ?_
          go_wp2_with fail
          go_ret
          exact ⟨rfl, by rw [HT.out]; exact HBl.out.trans ((HAz.out.mono hTa).trans (HVz.out.mono (by have := HAz.out.size; omega)))⟩
        have hq0 : ¬ (0 : Int) < (a1.bd.length : Int) := by omega
        clear hb0
        go_upto_region 15 with (go_at_call 21; refine hwk.mono ?_; rintro e W7 ⟨rfl, hw7, hq7⟩; have HW7 := Lib.hid hw7; have HQ7 := Lib.hid hq7; have fX7 := cells6T ((hq7.block X lX (by have := lt_of_blk HX.out; have := HV2.out.size; omega) (by have := lt_of_blk HX.out; have := HV2.out.size; omega)).trans HXw.out); have lX7 := Nat.lt_of_lt_of_le lX hq7.size; clear hwk hw7 hq7 fX lX)
        obtain ⟨n9, hn9⟩ : ∃ n, min (cntL a1.bd) (L.length + 1) = n := ⟨_, rfl⟩
        have hXl := lt_of_blk HX.out
        have hV2s := HV2.out.size
        have HP0 := Lib.hid HW7.out.l
        have HP1 := Lib.hid HW7.out.n
        rw [hn9] at HP1
        have HP2 := Lib.hid HW7.out.s
        have HP3 := Lib.hid HW7.out.st
        have HXz := Lib.hid ((HQ7.out.block X (lt_of_blk HXw.out) (by omega) (by omega)).trans HXw.out)
        have hTX : T < W5.heap.size := by have := HB4.out.size; have := HV6.out.size; omega
        have HTz := Lib.hid ((HQ7.out.block T hTX (by have := HB4.out.size; omega) (by have := HB4.out.size; omega)).trans (((HB4.out.trans (HV6.out.mono HB4.out.size)).block T (by omega)).trans H1.out.2))
        have HAz := Lib.hid (show Below wa.heap.size wa W7 from (HB4.out.trans (HV6.out.mono HB4.out.size)).trans (HQ7.out.below (Nat.le_trans HB4.out.size HV6.out.size) (by have := HB4.out.size; omega)))
        have HXm := Lib.hid (fun (w' : World) (h : Below W7.heap.size W7 w') => show MeAt w' (Lo w'.heap.size) (.agg #[.string (mkB a1.nm), .slice A1 a1.ps.length n1, .slice A2 a1.ts.length n2, .int .i64 a1.pr, .slice A4 a1.bd.length c4, .int .i64 a1.at_]) a1 from HMa.out.1.keep fun k hk => ⟨(h.block k (by have := hk.2; have := HMa.out.2; have := HV6.out.size; have := HQ7.out.size; omega)).trans ((HQ7.out.block k (by have := hk.2; have := HMa.out.2; have := HV6.out.size; omega) (by have := hk.2; have := HMa.out.2; omega) (by have := hk.2; have := HMa.out.2; omega)).trans (HV6.out.block k (Nat.lt_of_lt_of_le hk.2 HMa.out.2))), by have := hk.2; have := HMa.out.2; have := HV6.out.size; have := HQ7.out.size; have := h.size; show k < w'.heap.size; omega⟩)
        have hxs : sameM a1 a1 = true := sameM_refl _
        have hf : decide (cntL a1.bd ≤ L.length) = ((((L.length) : Nat) : Int) == (L.length : Int)) := by
          rw [Bool.eq_iff_iff]
          simp only [decide_eq_true_eq, beq_iff_eq]
          have hle9 : L.length ≤ L.length := Nat.le_refl _
          have h9 := hLl
          constructor <;> intro h8 <;> first | trivial | omega
        have hmn : min ((((L.length) : Nat) : Int) + 1) (L.length : Int) = (n9 : Int) := by rw [← hn9, hLl]; omega
        have hTa : T ≤ wa.heap.size := by omega
        have hwr : IntKind.i64.wrap ((((L.length) : Nat) : Int) + 1) = (((L.length) : Nat) : Int) + 1 := by
          have hle9 : L.length ≤ L.length := Nat.le_refl _
          have h9 := hLl
          rw [IntKind.wrap_i64]; omega
        have HLl := Lib.hid hLl
        clear hLl
        go_upto_region 15 with fail
        rename_i KK hKK
        have HKK := Lib.hid hKK
        clear hKK
        have HSz : Hid (∀ w' : World, Below W7.heap.size W7 w' → (w'.cell? ⟨P + 1 + 1, 0, none⟩ = some (.bool true) ∧ w'.cell? ⟨P + 1 + 1 + 1, 0, none⟩ = some (.int .i64 ((L.length : Nat) : Int)) ∧ w'.cell? ⟨P, 0, none⟩ = some (.slice AL L.length cL) ∧ w'.cell? ⟨P + 1, 0, none⟩ = some (.int .i64 (n9 : Int)) ∧ w'.cell? ⟨X, 0, none⟩ = some (.string (mkB a1.nm)) ∧ w'.cell? ⟨X, 1, none⟩ = some (.slice A1 a1.ps.length n1) ∧ w'.cell? ⟨X, 2, none⟩ = some (.slice A2 a1.ts.length n2) ∧ w'.cell? ⟨X, 3, none⟩ = some (.int .i64 a1.pr) ∧ w'.cell? ⟨X, 4, none⟩ = some (.slice A4 a1.bd.length c4) ∧ w'.cell? ⟨X, 5, none⟩ = some (.int .i64 a1.at_) ∧ w'.cell? ⟨T, 0, none⟩ = some (.string (mkB a1.nm)) ∧ w'.cell? ⟨T, 1, none⟩ = some (.slice Aq a1.ps.length cq) ∧ w'.cell? ⟨T, 2, none⟩ = some (.slice Ar a1.ts.length cr) ∧ w'.cell? ⟨T, 3, none⟩ = some (.int .i64 a1.pr) ∧ w'.cell? ⟨T, 4, none⟩ = some (.slice As a1.bd.length cs) ∧ w'.cell? ⟨T, 5, none⟩ = some (.int .i64 a1.at_))) := Lib.hid (fun w' h => by
          obtain ⟨b2, _⟩ := cells1T ((h.block _ (lt_of_blk HP2.out)).trans HP2.out)
          obtain ⟨b3, _⟩ := cells1T ((h.block _ (lt_of_blk HP3.out)).trans HP3.out)
          obtain ⟨b0, _⟩ := cells1T ((h.block _ (lt_of_blk HP0.out)).trans HP0.out)
          obtain ⟨b1, _⟩ := cells1T ((h.block _ (lt_of_blk HP1.out)).trans HP1.out)
          obtain ⟨e0, e1, e2, e3, e4, e5, _⟩ := cells6T ((h.block X (lt_of_blk HXz.out)).trans HXz.out)
          obtain ⟨g0, g1, g2, g3, g4, g5, _⟩ := cells6T ((h.block T (lt_of_blk HTz.out)).trans HTz.out)
          exact ⟨b2, b3, b0, b1, e0, e1, e2, e3, e4, e5, g0, g1, g2, g3, g4, g5⟩)
        refine wp_region_noPanic ?_
        refine wp_region_held_drew (S := (fun w' : World => w'.cell? ⟨P + 1 + 1, 0, none⟩ = some (.bool true) ∧ w'.cell? ⟨P + 1 + 1 + 1, 0, none⟩ = some (.int .i64 ((L.length : Nat) : Int)) ∧ w'.cell? ⟨P, 0, none⟩ = some (.slice AL L.length cL) ∧ w'.cell? ⟨P + 1, 0, none⟩ = some (.int .i64 (n9 : Int)) ∧ w'.cell? ⟨X, 0, none⟩ = some (.string (mkB a1.nm)) ∧ w'.cell? ⟨X, 1, none⟩ = some (.slice A1 a1.ps.length n1) ∧ w'.cell? ⟨X, 2, none⟩ = some (.slice A2 a1.ts.length n2) ∧ w'.cell? ⟨X, 3, none⟩ = some (.int .i64 a1.pr) ∧ w'.cell? ⟨X, 4, none⟩ = some (.slice A4 a1.bd.length c4) ∧ w'.cell? ⟨X, 5, none⟩ = some (.int .i64 a1.at_) ∧ w'.cell? ⟨T, 0, none⟩ = some (.string (mkB a1.nm)) ∧ w'.cell? ⟨T, 1, none⟩ = some (.slice Aq a1.ps.length cq) ∧ w'.cell? ⟨T, 2, none⟩ = some (.slice Ar a1.ts.length cr) ∧ w'.cell? ⟨T, 3, none⟩ = some (.int .i64 a1.pr) ∧ w'.cell? ⟨T, 4, none⟩ = some (.slice As a1.bd.length cs) ∧ w'.cell? ⟨T, 5, none⟩ = some (.int .i64 a1.at_))) (by kernel_rfl) (HSz.out _ (Below.refl _ _).drew) (fun hHeld => ?_)
        obtain ⟨W0, hW0⟩ : ∃ W0, W7.drew = W0 := ⟨_, rfl⟩
        have HVz := Lib.hid (show Below W7.heap.size W7 W0 from by rw [← hW0]; exact (Below.refl _ _).drew)
        rw [hW0] at hHeld ⊢
        clear hW0
        refine wpAnyH_take (i := 0) (v := ?_) (by first | (simp only [List.getElem?_toArray, List.getElem?_cons_zero]; rfl) | rfl) (by kernel_rfl) (by kernel_rfl) (by kernel_rfl) (fun _ _ _ h => h) (Or.inl ⟨by rfl, ?_⟩) (by assumption) ?_
        rotate_left 1
        · (intro w' hSw; (try dsimp only at hSw); go_simp; (try with_reducible rfl))
        try simp only [Act.put, List.setIfInBounds_toArray, List.set_cons_zero, List.set_cons_succ]
        refine wpAnyH_take (i := 1) (v := ?_) (by first | (simp only [List.getElem?_toArray, List.getElem?_cons_succ, List.getElem?_cons_zero]; rfl) | rfl) (by kernel_rfl) (by kernel_rfl) (by kernel_rfl) (fun _ _ _ h => h) (Or.inl ⟨by rfl, ?_⟩) (by assumption) ?_
        rotate_left 1
        · (intro w' hSw; (try dsimp only at hSw); go_simp; (try with_reducible rfl))
        try simp only [Act.put, List.setIfInBounds_toArray, List.set_cons_zero, List.set_cons_succ]
        refine wpAnyH_take (i := 2) (v := ?_) (by first | (simp only [List.getElem?_toArray, List.getElem?_cons_succ, List.getElem?_cons_zero]; rfl) | rfl) (by kernel_rfl) (by kernel_rfl) (by kernel_rfl) (fun _ _ _ h => h) (Or.inl ⟨by rfl, ?_⟩) (by assumption) ?_
        rotate_left 1
        · (intro w' hSw; (try dsimp only at hSw); go_simp; (try with_reducible rfl))
        try simp only [Act.put, List.setIfInBounds_toArray, List.set_cons_zero, List.set_cons_succ]
        refine wpAnyH_take (i := 3) (v := ?_) (by first | (simp only [List.getElem?_toArray, List.getElem?_cons_succ, List.getElem?_cons_zero]; rfl) | rfl) (by kernel_rfl) (by kernel_rfl) (by kernel_rfl) (fun _ _ _ h => h) (Or.inl ⟨by rfl, ?_⟩) (by assumption) ?_
        rotate_left 1
        · (intro w' hSw; (try dsimp only at hSw); go_simp; (try with_reducible rfl))
        try simp only [Act.put, List.setIfInBounds_toArray, List.set_cons_zero, List.set_cons_succ]
        refine wpAnyH_take (i := 4) (v := ?_) (by first | (simp only [List.getElem?_toArray, List.getElem?_cons_succ, List.getElem?_cons_zero]; rfl) | rfl) (by kernel_rfl) (by kernel_rfl) (by kernel_rfl) (fun _ _ _ h => h) (Or.inl ⟨by rfl, ?_⟩) (by assumption) ?_
        rotate_left 1
        · (intro w' hSw; (try dsimp only at hSw); go_simp; (try with_reducible rfl))
        try simp only [Act.put, List.setIfInBounds_toArray, List.set_cons_zero, List.set_cons_succ]
        refine wpAnyH_take (i := 5) (v := ?_) (by first | (simp only [List.getElem?_toArray, List.getElem?_cons_succ, List.getElem?_cons_zero]; rfl) | rfl) (by kernel_rfl) (by kernel_rfl) (by kernel_rfl) (fun _ _ _ h => h) (Or.inl ⟨by rfl, ?_⟩) (by assumption) ?_
        rotate_left 1
        · (intro w' hSw; (try dsimp only at hSw); go_simp; (try with_reducible rfl))
        try simp only [Act.put, List.setIfInBounds_toArray, List.set_cons_zero, List.set_cons_succ]
        refine wpAnyH_take (i := 6) (v := ?_) (by first | (simp only [List.getElem?_toArray, List.getElem?_cons_succ, List.getElem?_cons_zero]; rfl) | rfl) (by kernel_rfl) (by kernel_rfl) (by kernel_rfl) (fun _ _ _ h => h) (Or.inl ⟨by rfl, ?_⟩) (by assumption) ?_
        rotate_left 1
        · (intro w' hSw; (try dsimp only at hSw); go_simp; (try with_reducible rfl))
        try simp only [Act.put, List.setIfInBounds_toArray, List.set_cons_zero, List.set_cons_succ]
        refine wpAnyH_take (i := 7) (v := ?_) (by first | (simp only [List.getElem?_toArray, List.getElem?_cons_succ, List.getElem?_cons_zero]; rfl) | rfl) (by kernel_rfl) (by kernel_rfl) (by kernel_rfl) (fun _ _ _ h => h) (Or.inl ⟨by rfl, ?_⟩) (by assumption) ?_
        rotate_left 1
        · (intro w' hSw; (try dsimp only at hSw); go_simp; (try with_reducible rfl))
        try simp only [Act.put, List.setIfInBounds_toArray, List.set_cons_zero, List.set_cons_succ]
        refine wpAnyH_take (i := 8) (v := ?_) (by first | (simp only [List.getElem?_toArray, List.getElem?_cons_succ, List.getElem?_cons_zero]; rfl) | rfl) (by kernel_rfl) (by kernel_rfl) (by kernel_rfl) (fun _ _ _ h => h) (Or.inl ⟨by rfl, ?_⟩) (by assumption) ?_
        rotate_left 1
        · (intro w' hSw; (try dsimp only at hSw); go_simp; (try with_reducible rfl))
        try simp only [Act.put, List.setIfInBounds_toArray, List.set_cons_zero, List.set_cons_succ]
        refine wpAnyH_take (i := 9) (v := ?_) (by first | (simp only [List.getElem?_toArray, List.getElem?_cons_succ, List.getElem?_cons_zero]; rfl) | rfl) (by kernel_rfl) (by kernel_rfl) (by kernel_rfl) (fun _ _ _ h => h) (Or.inl ⟨by rfl, ?_⟩) (by assumption) ?_
        rotate_left 1
        · (intro w' hSw; (try dsimp only at hSw); go_simp; (try with_reducible rfl))
        try simp only [Act.put, List.setIfInBounds_toArray, List.set_cons_zero, List.set_cons_succ]
        refine wpAnyH_take (i := 10) (v := ?_) (by first | (simp only [List.getElem?_toArray, List.getElem?_cons_succ, List.getElem?_cons_zero]; rfl) | rfl) (by kernel_rfl) (by kernel_rfl) (by kernel_rfl) (fun _ _ _ h => h) (Or.inl ⟨by rfl, ?_⟩) (by assumption) ?_
        rotate_left 1
        · (intro w' hSw; (try dsimp only at hSw); go_simp; (try with_reducible rfl))
        try simp only [Act.put, List.setIfInBounds_toArray, List.set_cons_zero, List.set_cons_succ]
        refine wpAnyH_take (i := 11) (v := ?_) (by first | (simp only [List.getElem?_toArray, List.getElem?_cons_succ, List.getElem?_cons_zero]; rfl) | rfl) (by kernel_rfl) (by kernel_rfl) (by kernel_rfl) (fun _ _ _ h => h) (Or.inl ⟨by rfl, ?_⟩) (by assumption) ?_
        rotate_left 1
        · (intro w' hSw; (try dsimp only at hSw); go_simp; (try with_reducible rfl))
        try simp only [Act.put, List.setIfInBounds_toArray, List.set_cons_zero, List.set_cons_succ]
        refine wpAnyH_take (i := 12) (v := ?_) (by first | (simp only [List.getElem?_toArray, List.getElem?_cons_succ, List.getElem?_cons_zero]; rfl) | rfl) (by kernel_rfl) (by kernel_rfl) (by kernel_rfl) (fun _ _ _ h => h) (Or.inl ⟨by rfl, ?_⟩) (by assumption) ?_
        rotate_left 1
        · (intro w' hSw; (try dsimp only at hSw); go_simp; (try with_reducible rfl))
        try simp only [Act.put, List.setIfInBounds_toArray, List.set_cons_zero, List.set_cons_succ]
        refine wpAnyH_take (i := 13) (v := ?_) (by first | (simp only [List.getElem?_toArray, List.getElem?_cons_succ, List.getElem?_cons_zero]; rfl) | rfl) (by kernel_rfl) (by kernel_rfl) (by kernel_rfl) (fun _ _ _ h => h) (Or.inl ⟨by rfl, ?_⟩) (by assumption) ?_
        rotate_left 1
        · (intro w' hSw; (try dsimp only at hSw); go_simp; (try with_reducible rfl))
        try simp only [Act.put, List.setIfInBounds_toArray, List.set_cons_zero, List.set_cons_succ]
        refine wpAnyH_take (i := 14) (v := ?_) (by first | (simp only [List.getElem?_toArray, List.getElem?_cons_succ, List.getElem?_cons_zero]; rfl) | rfl) (by kernel_rfl) (by kernel_rfl) (by kernel_rfl) (fun _ _ _ h => h) (Or.inl ⟨by rfl, ?_⟩) (by assumption) ?_
        rotate_left 1
        · (intro w' hSw; (try dsimp only at hSw); go_simp; (try with_reducible rfl))
        try simp only [Act.put, List.setIfInBounds_toArray, List.set_cons_zero, List.set_cons_succ]
        refine wpAnyH_take (i := 15) (v := ?_) (by first | (simp only [List.getElem?_toArray, List.getElem?_cons_succ, List.getElem?_cons_zero]; rfl) | rfl) (by kernel_rfl) (by kernel_rfl) (by kernel_rfl) (fun _ _ _ h => h) (Or.inl ⟨by rfl, ?_⟩) (by assumption) ?_
        rotate_left 1
        · (intro w' hSw; (try dsimp only at hSw); go_simp; (try with_reducible rfl))
        try simp only [Act.put, List.setIfInBounds_toArray, List.set_cons_zero, List.set_cons_succ]
        refine wpAnyH_take (i := 16) (v := ?_) (by first | (simp only [List.getElem?_toArray, List.getElem?_cons_succ, List.getElem?_cons_zero]; rfl) | rfl) (by kernel_rfl) (by kernel_rfl) (by kernel_rfl) (fun _ _ _ h => h) (Or.inl ⟨by rfl, ?_⟩) (by assumption) ?_
        rotate_left 1
        · (intro w' hSw; (try dsimp only at hSw); go_simp; (try with_reducible rfl))
        try simp only [Act.put, List.setIfInBounds_toArray, List.set_cons_zero, List.set_cons_succ]
        refine wpAnyH_take (i := 17) (v := ?_) (by first | (simp only [List.getElem?_toArray, List.getElem?_cons_succ, List.getElem?_cons_zero]; rfl) | rfl) (by kernel_rfl) (by kernel_rfl) (by kernel_rfl) (fun _ _ _ h => h) (Or.inl ⟨by rfl, ?_⟩) (by assumption) ?_
        rotate_left 1
        · (intro w' hSw; (try dsimp only at hSw); go_simp; (try with_reducible rfl))
        try simp only [Act.put, List.setIfInBounds_toArray, List.set_cons_zero, List.set_cons_succ]
        refine wpAnyH_take (i := 18) (v := ?_) (by first | (simp only [List.getElem?_toArray, List.getElem?_cons_succ, List.getElem?_cons_zero]; rfl) | rfl) (by kernel_rfl) (by kernel_rfl) (by kernel_rfl) (fun _ _ _ h => h) (Or.inl ⟨by rfl, ?_⟩) (by assumption) ?_
        rotate_left 1
        · (intro w' hSw; (try dsimp only at hSw); go_simp; (try with_reducible rfl))
        try simp only [Act.put, List.setIfInBounds_toArray, List.set_cons_zero, List.set_cons_succ]
        refine wpAnyH_take (i := 19) (v := ?_) (by first | (simp only [List.getElem?_toArray, List.getElem?_cons_succ, List.getElem?_cons_zero]; rfl) | rfl) (by kernel_rfl) (by kernel_rfl) (by kernel_rfl) (fun _ _ _ h => h) (Or.inl ⟨by rfl, ?_⟩) (by assumption) ?_
        rotate_left 1
        · (intro w' hSw; (try dsimp only at hSw); go_simp; (try with_reducible rfl))
        try simp only [Act.put, List.setIfInBounds_toArray, List.set_cons_zero, List.set_cons_succ]
        refine wpAnyH_take (i := 20) (v := ?_) (by first | (simp only [List.getElem?_toArray, List.getElem?_cons_succ, List.getElem?_cons_zero]; rfl) | rfl) (by kernel_rfl) (by kernel_rfl) (by kernel_rfl) (fun _ _ _ h => h) (Or.inl ⟨by rfl, ?_⟩) (by assumption) ?_
        rotate_left 1
        · (intro w' hSw; (try dsimp only at hSw); go_simp; (try with_reducible rfl))
        try simp only [Act.put, List.setIfInBounds_toArray, List.set_cons_zero, List.set_cons_succ]
        refine wpAnyH_ready (rs := [21]) (by kernel_rfl) (by simp) ?_
        refine AllReadyH.cons (by first | (simp only [List.getElem?_toArray, List.getElem?_cons_succ, List.getElem?_cons_zero]; rfl) | rfl) (fun K hK => ?_) AllReadyH.nil
        go_simp
        refine (HOa.out W0 (HAz.out.trans (HVz.out.mono HAz.out.size))).mono ?_
        rintro e Wn ⟨v9, he, hma, hb, -⟩
        subst he
        dsimp only
        replace HVz := Lib.hid (HVz.out.trans (hb.mono HVz.out.size))
        have HMo := Lib.hid (show MeAt Wn (Lo Wn.heap.size) v9 a1 from hma.keep fun k hk => ⟨rfl, (hk.resolve_left (Nat.not_lt_zero k)).2⟩)
        clear hb hma
        obtain ⟨W0, rfl⟩ : ∃ W, W = Wn := ⟨Wn, rfl⟩
        refine hK.out _ _ (HSz.out _ HVz.out) (fun hHeld => ?_)
        clear hK K
        try simp only [Act.put, List.setIfInBounds_toArray, List.set_cons_zero, List.set_cons_succ]
        refine wpAnyH_ready (rs := [22]) (by kernel_rfl) (by simp) ?_
        refine AllReadyH.cons (by first | (simp only [List.getElem?_toArray, List.getElem?_cons_succ, List.getElem?_cons_zero]; rfl) | rfl) (fun K hK => ?_) AllReadyH.nil
        go_simp
        refine (sameM_any a1 a1 _ _ W0 (HXm.out W0 HVz.out) HMo.out).mono ?_
        rintro e Wn ⟨he, hb⟩
        rw [hxs] at he
        subst he
        dsimp only
        replace HVz := Lib.hid (HVz.out.trans (hb.mono HVz.out.size))
        clear hb HMo
        obtain ⟨W0, rfl⟩ : ∃ W, W = Wn := ⟨Wn, rfl⟩
        refine hK.out _ _ (HSz.out _ HVz.out) (fun hHeld => ?_)
        clear hK K
        try simp only [Act.put, List.setIfInBounds_toArray, List.set_cons_zero, List.set_cons_succ]
        refine wpAnyH_take (i := 23) (v := ?_) (by first | (simp only [List.getElem?_toArray, List.getElem?_cons_succ, List.getElem?_cons_zero]; rfl) | rfl) (by kernel_rfl) (by kernel_rfl) (by kernel_rfl) (fun _ _ _ h => h) (Or.inl ⟨by rfl, ?_⟩) (by assumption) ?_
        rotate_left 1
        · (intro w' hSw; (try dsimp only at hSw); go_simp; (try with_reducible rfl))
        try simp only [Act.put, List.setIfInBounds_toArray, List.set_cons_zero, List.set_cons_succ]
        refine wpAnyH_take (i := 24) (v := ?_) (by first | (simp only [List.getElem?_toArray, List.getElem?_cons_succ, List.getElem?_cons_zero]; rfl) | rfl) (by kernel_rfl) (by kernel_rfl) (by kernel_rfl) (fun _ _ _ h => h) (Or.inl ⟨by rfl, ?_⟩) (by assumption) ?_
        rotate_left 1
        · (intro w' hSw; (try dsimp only at hSw); go_simp; (try with_reducible rfl))
        try simp only [Act.put, List.setIfInBounds_toArray, List.set_cons_zero, List.set_cons_succ]
        refine wpAnyH_done (by kernel_rfl) ?_ _
        refine HKK.out _ _ ?_
        go_wp2_with fail
        go_ret
        exact ⟨rfl, by rw [HT.out]; exact HBl.out.trans ((HAz.out.mono hTa).trans (HVz.out.mono (by have := HAz.out.size; omega)))⟩
      by_cases ha1 : at_ < (L.length : Int)
      case neg =>
        go_upto_region 12 with fail
        have hb6 : Below W2.heap.size W2 W5 := hb5
        have hws : WsI W5 P (P + 1) AL cL L 0 (L.length) := ⟨p0, by simpa using p1, p2, p3, hrd.below (by have := hb6; rwa [hP] at this) (Nat.le_refl _), Nat.lt_succ_self _⟩
        have HV6 := Lib.hid (HV2.out.trans (hb6.mono (Nat.le_trans (Nat.le_of_eq rfl) HV2.out.size)))
        have hwk := walkM_any a1 (.agg #[.string (mkB a1.nm), .slice A1 a1.ps.length n1, .slice A2 a1.ts.length n2, .int .i64 a1.pr, .slice A4 a1.bd.length c4, .int .i64 a1.at_]) AL cL P (P + 1) (L.length) L W5 (HMa.out.1.keep fun k hk => ⟨HV6.out.block k (Nat.lt_of_lt_of_le hk.2 HMa.out.2), show k < P by have := HMa.out.2; have := HV2.out.size; have := hk.2; omega⟩) hws (Nat.le_refl _) (by rw [hLl]; exact hc9) hL1
        have HXw := Lib.hid ((HV6.out.block X (lt_of_blk HX.out)).trans HX.out)
        have fX := cells6T HXw.out
        have lX := lt_of_blk HXw.out
        by_cases hb0 : 0 < a1.bd.length
        · obtain ⟨y, es', rfl⟩ : ∃ y l, es = y :: l := by
            cases es with
            | nil =>
              have := congrArg List.length HE1.out
              simp only [List.map_nil, List.length_nil] at this
              omega
            | cons y l => exact ⟨y, l, rfl⟩
          obtain ⟨g, rfl⟩ : ∃ g, A4 = some ⟨g, 0, none⟩ := by
            rcases HEa.out.1.2 with ⟨_, e2⟩ | ⟨g, cap, cur, e1, _⟩
            · simp at e2
            · injection e1 with e1
              exact ⟨g, e1⟩
          have hbd : a1.bd = y.1 :: es'.map (fun x => x.1) := HE1.out.symm
          have hl9 : a1.bd.length = (y :: es').length := by rw [hbd]; simp
          have hGg := HGe.out g rfl
          have hEa := HEa.out
          rw [hl9] at hEa
          have HBD := Lib.hid hbd
          have hV6s := HV6.out.size
          have hV2s := HV2.out.size
          have hHa := HMa.out.2
          have HT7 : Hid (∀ W7, OvQ (P + 1) W5 W7 → W7.cell? ⟨g, 5, none⟩ = some (.int .i64 y.1.at_) ∧ W7.frozen? ⟨g, 5, none⟩ = false ∧ g < W7.heap.size ∧ la ≤ g ∧ MeAt (W7.setCell ⟨g, 5, none⟩ (.int .i64 (wrap64 (y.1.at_ + 1)))) (Lo W7.heap.size) (.agg #[.string (mkB a1.nm), .slice A1 a1.ps.length n1, .slice A2 a1.ts.length n2, .int .i64 a1.pr, .slice (some ⟨g, 0, none⟩) a1.bd.length c4, .int .i64 a1.at_]) { a1 with bd := withAt y.1 (wrap64 (y.1.at_ + 1)) :: es'.map fun x => x.1 }) := Lib.hid (fun W7 hq => by
            have hq7s := hq.size
            have hkk : ∀ k, k < ha → W7.heap[k]? = wb.heap[k]? := fun k hk => (hq.block k (by omega) (by omega) (by omega)).trans (HV6.out.block k (by omega))
            have hPW : wb.heap.size ≤ W7.heap.size := by omega
            refine turnT (la := la) (x := y) (es := es') _ (HMa.out.1.keep fun k hk => ⟨hkk k hk.2, by show k < W7.heap.size; have := hk.2; omega⟩) (OwnP.keepO hEa.1 fun k hk => ?_) (fun z hz => (hEa.2 z hz).keep fun k hk => ?_) hbd
            · have e : g = k := by injection hk
              subst e
              exact hkk g hGg.2
            · rcases hk with h | ⟨h1, h2, h3⟩
              · exact absurd h (Nat.not_lt_zero k)
              · exact ⟨hkk k h2, .inr ⟨h1, by omega, h3⟩⟩)
          have hq1 : (0 : Int) < (a1.bd.length : Int) := by omega
          clear hbd hl9 hEa hb0
          go_upto_region 15 with (go_at_call 21; refine hwk.mono ?_; rintro e W7 ⟨rfl, hw7, hq7⟩; have HW7 := Lib.hid hw7; have HQ7 := Lib.hid hq7; have fX7 := cells6T ((hq7.block X lX (by have := lt_of_blk HX.out; have := HV2.out.size; omega) (by have := lt_of_blk HX.out; have := HV2.out.size; omega)).trans HXw.out); have lX7 := Nat.lt_of_lt_of_le lX hq7.size; obtain ⟨c5, z5, l5, -, hme7⟩ := HT7.out W7 hq7; have HME7 := Lib.hid hme7; clear hwk hw7 hq7 fX lX hme7)
          obtain ⟨n9, hn9⟩ : ∃ n, min (cntL a1.bd) (L.length + 1) = n := ⟨_, rfl⟩
          have hXl := lt_of_blk HX.out
          have hgX : X ≠ g := by have := HNm.out.2.2.1; omega
          have hq7s := HQ7.out.size
          obtain ⟨W8, hW8⟩ : ∃ W, W7.setCell ⟨g, 5, none⟩ (.int .i64 (wrap64 (y.1.at_ + 1))) = W := ⟨_, rfl⟩
          have hk8 : ∀ k, k ≠ g → W8.heap[k]? = W7.heap[k]? := fun k hk => by rw [← hW8]; exact Below.heap_setCell W7 ⟨g, 5, none⟩ _ k hk
          have hs8 : W8.heap.size = W7.heap.size := by rw [← hW8]; simp [World.setCell]
          obtain ⟨xm, hxm⟩ : ∃ m : Me, { a1 with bd := withAt y.1 (wrap64 (y.1.at_ + 1)) :: es'.map fun x => x.1 } = m := ⟨_, rfl⟩
          have hme8 := HME7.out
          rw [hW8, hxm] at hme8
          have hgP : g < P := by have := hGg.2; omega
          have HP0 := Lib.hid ((hk8 _ (by omega)).trans HW7.out.l)
          have HP1 := Lib.hid ((hk8 _ (by omega)).trans HW7.out.n)
          rw [hn9] at HP1
          have HP2 := Lib.hid ((hk8 _ (by omega)).trans HW7.out.s)
          have HP3 := Lib.hid ((hk8 _ (by omega)).trans HW7.out.st)
          have HXz := Lib.hid ((hk8 X hgX).trans ((HQ7.out.block X (lt_of_blk HXw.out) (by omega) (by omega)).trans HXw.out))
          have hTX : T < W5.heap.size := by have := HB4.out.size; have := HV6.out.size; omega
          have hTg : T ≠ g := by have := HNm.out.2.1.1; have := hGg.1; omega
          have HTz := Lib.hid ((hk8 T hTg).trans ((HQ7.out.block T hTX (by have := HB4.out.size; omega) (by have := HB4.out.size; omega)).trans (((HB4.out.trans (HV6.out.mono HB4.out.size)).block T (by omega)).trans H1.out.2)))
          have hAg : wa.heap.size ≤ g := by have := HNm.out.2.1.1; have := hGg.1; omega
          have HAz := Lib.hid (show Below wa.heap.size wa W8 from by rw [← hW8]; exact ((HB4.out.trans (HV6.out.mono HB4.out.size)).trans (HQ7.out.below (Nat.le_trans HB4.out.size HV6.out.size) (by have := HB4.out.size; omega))).setCell (p := ⟨g, 5, none⟩) hAg _)
          have HXm := Lib.hid (fun (w' : World) (h : Below W8.heap.size W8 w') => show MeAt w' (Lo w'.heap.size) (.agg #[.string (mkB a1.nm), .slice A1 a1.ps.length n1, .slice A2 a1.ts.length n2, .int .i64 a1.pr, .slice (some ⟨g, 0, none⟩) a1.bd.length c4, .int .i64 a1.at_]) xm from hme8.keep fun k hk => ⟨h.block k (by rw [hs8]; exact hk), by have := h.size; rw [hs8] at this; exact Nat.lt_of_lt_of_le hk this⟩)
          have hxs : sameM xm a1 = true := by rw [← hxm]; exact sameM_withAt a1 y.1 _ _ HBD.out
          have hf : decide (cntL a1.bd ≤ L.length) = ((((L.length) : Nat) : Int) == (L.length : Int)) := by
            rw [Bool.eq_iff_iff]
            simp only [decide_eq_true_eq, beq_iff_eq]
            have hle9 : L.length ≤ L.length := Nat.le_refl _
            have h9 := hLl
            constructor <;> intro h8 <;> first | trivial | omega
          have hmn : min ((((L.length) : Nat) : Int) + 1) (L.length : Int) = (n9 : Int) := by rw [← hn9, hLl]; omega
          have hTa : T ≤ wa.heap.size := by omega
          have hwr : IntKind.i64.wrap ((((L.length) : Nat) : Int) + 1) = (((L.length) : Nat) : Int) + 1 := by
            have hle9 : L.length ≤ L.length := Nat.le_refl _
            have h9 := hLl
            rw [IntKind.wrap_i64]; omega
          rw [hW8]
          have HLl := Lib.hid hLl
          clear hLl hW8 hk8 hxm hme8 hq1 c5 z5 l5 HME7 HT7 HBD hs8 hgX hTg hAg hgP hGg hV6s hHa
          go_upto_region 15 with fail
          rename_i KK hKK
          have HKK := Lib.hid hKK
          clear hKK
          have HSz : Hid (∀ w' : World, Below W8.heap.size W8 w' → (w'.cell? ⟨P + 1 + 1, 0, none⟩ = some (.bool true) ∧ w'.cell? ⟨P + 1 + 1 + 1, 0, none⟩ = some (.int .i64 ((L.length : Nat) : Int)) ∧ w'.cell? ⟨P, 0, none⟩ = some (.slice AL L.length cL) ∧ w'.cell? ⟨P + 1, 0, none⟩ = some (.int .i64 (n9 : Int)) ∧ w'.cell? ⟨X, 0, none⟩ = some (.string (mkB a1.nm)) ∧ w'.cell? ⟨X, 1, none⟩ = some (.slice A1 a1.ps.length n1) ∧ w'.cell? ⟨X, 2, none⟩ = some (.slice A2 a1.ts.length n2) ∧ w'.cell? ⟨X, 3, none⟩ = some (.int .i64 a1.pr) ∧ w'.cell? ⟨X, 4, none⟩ = some (.slice (some ⟨g, 0, none⟩) a1.bd.length c4) ∧ w'.cell? ⟨X, 5, none⟩ = some (.int .i64 a1.at_) ∧ w'.cell? ⟨T, 0, none⟩ = some (.string (mkB a1.nm)) ∧ w'.cell? ⟨T, 1, none⟩ = some (.slice Aq a1.ps.length cq) ∧ w'.cell? ⟨T, 2, none⟩ = some (.slice Ar a1.ts.length cr) ∧ w'.cell? ⟨T, 3, none⟩ = some (.int .i64 a1.pr) ∧ w'.cell? ⟨T, 4, none⟩ = some (.slice As a1.bd.length cs) ∧ w'.cell? ⟨T, 5, none⟩ = some (.int .i64 a1.at_))) := Lib.hid (fun w' h => by
            obtain ⟨b2, _⟩ := cells1T ((h.block _ (lt_of_blk HP2.out)).trans HP2.out)
            obtain ⟨b3, _⟩ := cells1T ((h.block _ (lt_of_blk HP3.out)).trans HP3.out)
            obtain ⟨b0, _⟩ := cells1T ((h.block _ (lt_of_blk HP0.out)).trans HP0.out)
            obtain ⟨b1, _⟩ := cells1T ((h.block _ (lt_of_blk HP1.out)).trans HP1.out)
            obtain ⟨e0, e1, e2, e3, e4, e5, _⟩ := cells6T ((h.block X (lt_of_blk HXz.out)).trans HXz.out)
            obtain ⟨g0, g1, g2, g3, g4, g5, _⟩ := cells6T ((h.block T (lt_of_blk HTz.out)).trans HTz.out)
            exact ⟨b2, b3, b0, b1, e0, e1, e2, e3, e4, e5, g0, g1, g2, g3, g4, g5⟩)
          refine wp_region_noPanic ?_
          refine wp_region_held_drew (S := (fun w' : World => w'.cell? ⟨P + 1 + 1, 0, none⟩ = some (.bool true) ∧ w'.cell? ⟨P + 1 + 1 + 1, 0, none⟩ = some (.int .i64 ((L.length : Nat) : Int)) ∧ w'.cell? ⟨P, 0, none⟩ = some (.slice AL L.length cL) ∧ w'.cell? ⟨P + 1, 0, none⟩ = some (.int .i64 (n9 : Int)) ∧ w'.cell? ⟨X, 0, none⟩ = some (.string (mkB a1.nm)) ∧ w'.cell? ⟨X, 1, none⟩ = some (.slice A1 a1.ps.length n1) ∧ w'.cell? ⟨X, 2, none⟩ = some (.slice A2 a1.ts.length n2) ∧ w'.cell? ⟨X, 3, none⟩ = some (.int .i64 a1.pr) ∧ w'.cell? ⟨X, 4, none⟩ = some (.slice (some ⟨g, 0, none⟩) a1.bd.length c4) ∧ w'.cell? ⟨X, 5, none⟩ = some (.int .i64 a1.at_) ∧ w'.cell? ⟨T, 0, none⟩ = some (.string (mkB a1.nm)) ∧ w'.cell? ⟨T, 1, none⟩ = some (.slice Aq a1.ps.length cq) ∧ w'.cell? ⟨T, 2, none⟩ = some (.slice Ar a1.ts.length cr) ∧ w'.cell? ⟨T, 3, none⟩ = some (.int .i64 a1.pr) ∧ w'.cell? ⟨T, 4, none⟩ = some (.slice As a1.bd.length cs) ∧ w'.cell? ⟨T, 5, none⟩ = some (.int .i64 a1.at_))) (by kernel_rfl) (HSz.out _ (Below.refl _ _).drew) (fun hHeld => ?_)
          obtain ⟨W0, hW0⟩ : ∃ W0, W8.drew = W0 := ⟨_, rfl⟩
          have HVz := Lib.hid (show Below W8.heap.size W8 W0 from by rw [← hW0]; exact (Below.refl _ _).drew)
          rw [hW0] at hHeld ⊢
          clear hW0
          refine wpAnyH_take (i := 0) (v := ?_) (by first | (simp only [List.getElem?_toArray, List.getElem?_cons_zero]; rfl) | rfl) (by kernel_rfl) (by kernel_rfl) (by kernel_rfl) (fun _ _ _ h => h) (Or.inl ⟨by rfl, ?_⟩) (by assumption) ?_
          rotate_left 1
          · (intro w' hSw; (try dsimp only at hSw); go_simp; (try with_reducible rfl))
          try simp only [Act.put, List.setIfInBounds_toArray, List.set_cons_zero, List.set_cons_succ]
          refine wpAnyH_take (i := 1) (v := ?_) (by first | (simp only [List.getElem?_toArray, List.getElem?_cons_succ, List.getElem?_cons_zero]; rfl) | rfl) (by kernel_rfl) (by kernel_rfl) (by kernel_rfl) (fun _ _ _ h => h) (Or.inl ⟨by rfl, ?_⟩) (by assumption) ?_
          rotate_left 1
          · (intro w' hSw; (try dsimp only at hSw); go_simp; (try with_reducible rfl))
          try simp only [Act.put, List.setIfInBounds_toArray, List.set_cons_zero, List.set_cons_succ]
          refine wpAnyH_take (i := 2) (v := ?_) (by first | (simp only [List.getElem?_toArray, List.getElem?_cons_succ, List.getElem?_cons_zero]; rfl) | rfl) (by kernel_rfl) (by kernel_rfl) (by kernel_rfl) (fun _ _ _ h => h) (Or.inl ⟨by rfl, ?_⟩) (by assumption) ?_
          rotate_left 1
          · (intro w' hSw; (try dsimp only at hSw); go_simp; (try with_reducible rfl))
          try simp only [Act.put, List.setIfInBounds_toArray, List.set_cons_zero, List.set_cons_succ]
          refine wpAnyH_take (i := 3) (v := ?_) (by first | (simp only [List.getElem?_toArray, List.getElem?_cons_succ, List.getElem?_cons_zero]; rfl) | rfl) (by kernel_rfl) (by kernel_rfl) (by kernel_rfl) (fun _ _ _ h => h) (Or.inl ⟨by rfl, ?_⟩) (by assumption) ?_
          rotate_left 1
          · (intro w' hSw; (try dsimp only at hSw); go_simp; (try with_reducible rfl))
          try simp only [Act.put, List.setIfInBounds_toArray, List.set_cons_zero, List.set_cons_succ]
          refine wpAnyH_take (i := 4) (v := ?_) (by first | (simp only [List.getElem?_toArray, List.getElem?_cons_succ, List.getElem?_cons_zero]; rfl) | rfl) (by kernel_rfl) (by kernel_rfl) (by kernel_rfl) (fun _ _ _ h => h) (Or.inl ⟨by rfl, ?_⟩) (by assumption) ?_
          rotate_left 1
          · (intro w' hSw; (try dsimp only at hSw); go_simp; (try with_reducible rfl))
          try simp only [Act.put, List.setIfInBounds_toArray, List.set_cons_zero, List.set_cons_succ]
          refine wpAnyH_take (i := 5) (v := ?_) (by first | (simp only [List.getElem?_toArray, List.getElem?_cons_succ, List.getElem?_cons_zero]; rfl) | rfl) (by kernel_rfl) (by kernel_rfl) (by kernel_rfl) (fun _ _ _ h => h) (Or.inl ⟨by rfl, ?_⟩) (by assumption) ?_
          rotate_left 1
          · (intro w' hSw; (try dsimp only at hSw); go_simp; (try with_reducible rfl))
          try simp only [Act.put, List.setIfInBounds_toArray, List.set_cons_zero, List.set_cons_succ]
          refine wpAnyH_take (i := 6) (v := ?_) (by first | (simp only [List.getElem?_toArray, List.getElem?_cons_succ, List.getElem?_cons_zero]; rfl) | rfl) (by kernel_rfl) (by kernel_rfl) (by kernel_rfl) (fun _ _ _ h => h) (Or.inl ⟨by rfl, ?_⟩) (by assumption) ?_
          rotate_left 1
          · (intro w' hSw; (try dsimp only at hSw); go_simp; (try with_reducible rfl))
          try simp only [Act.put, List.setIfInBounds_toArray, List.set_cons_zero, List.set_cons_succ]
          refine wpAnyH_take (i := 7) (v := ?_) (by first | (simp only [List.getElem?_toArray, List.getElem?_cons_succ, List.getElem?_cons_zero]; rfl) | rfl) (by kernel_rfl) (by kernel_rfl) (by kernel_rfl) (fun _ _ _ h => h) (Or.inl ⟨by rfl, ?_⟩) (by assumption) ?_
          rotate_left 1
          · (intro w' hSw; (try dsimp only at hSw); go_simp; (try with_reducible rfl))
          try simp only [Act.put, List.setIfInBounds_toArray, List.set_cons_zero, List.set_cons_succ]
          refine wpAnyH_take (i := 8) (v := ?_) (by first | (simp only [List.getElem?_toArray, List.getElem?_cons_succ, List.getElem?_cons_zero]; rfl) | rfl) (by kernel_rfl) (by kernel_rfl) (by kernel_rfl) (fun _ _ _ h => h) (Or.inl ⟨by rfl, ?_⟩) (by assumption) ?_
          rotate_left 1
          · (intro w' hSw; (try dsimp only at hSw); go_simp; (try with_reducible rfl))
          try simp only [Act.put, List.setIfInBounds_toArray, List.set_cons_zero, List.set_cons_succ]
          refine wpAnyH_take (i := 9) (v := ?_) (by first | (simp only [List.getElem?_toArray, List.getElem?_cons_succ, List.getElem?_cons_zero]; rfl) | rfl) (by kernel_rfl) (by kernel_rfl) (by kernel_rfl) (fun _ _ _ h => h) (Or.inl ⟨by rfl, ?_⟩) (by assumption) ?_
          rotate_left 1
          · (intro w' hSw; (try dsimp only at hSw); go_simp; (try with_reducible rfl))
          try simp only [Act.put, List.setIfInBounds_toArray, List.set_cons_zero, List.set_cons_succ]
          refine wpAnyH_take (i := 10) (v := ?_) (by first | (simp only [List.getElem?_toArray, List.getElem?_cons_succ, List.getElem?_cons_zero]; rfl) | rfl) (by kernel_rfl) (by kernel_rfl) (by kernel_rfl) (fun _ _ _ h => h) (Or.inl ⟨by rfl, ?_⟩) (by assumption) ?_
          rotate_left 1
          · (intro w' hSw; (try dsimp only at hSw); go_simp; (try with_reducible rfl))
          try simp only [Act.put, List.setIfInBounds_toArray, List.set_cons_zero, List.set_cons_succ]
          refine wpAnyH_take (i := 11) (v := ?_) (by first | (simp only [List.getElem?_toArray, List.getElem?_cons_succ, List.getElem?_cons_zero]; rfl) | rfl) (by kernel_rfl) (by kernel_rfl) (by kernel_rfl) (fun _ _ _ h => h) (Or.inl ⟨by rfl, ?_⟩) (by assumption) ?_
          rotate_left 1
          · (intro w' hSw; (try dsimp only at hSw); go_simp; (try with_reducible rfl))
          try simp only [Act.put, List.setIfInBounds_toArray, List.set_cons_zero, List.set_cons_succ]
          refine wpAnyH_take (i := 12) (v := ?_) (by first | (simp only [List.getElem?_toArray, List.getElem?_cons_succ, List.getElem?_cons_zero]; rfl) | rfl) (by kernel_rfl) (by kernel_rfl) (by kernel_rfl) (fun _ _ _ h => h) (Or.inl ⟨by rfl, ?_⟩) (by assumption) ?_
          rotate_left 1
          · (intro w' hSw; (try dsimp only at hSw); go_simp; (try with_reducible rfl))
          try simp only [Act.put, List.setIfInBounds_toArray, List.set_cons_zero, List.set_cons_succ]
          refine wpAnyH_take (i := 13) (v := ?_) (by first | (simp only [List.getElem?_toArray, List.getElem?_cons_succ, List.getElem?_cons_zero]; rfl) | rfl) (by kernel_rfl) (by kernel_rfl) (by kernel_rfl) (fun _ _ _ h => h) (Or.inl ⟨by rfl, ?_⟩) (by assumption) ?_
          rotate_left 1
          · (intro w' hSw; (try dsimp only at hSw); go_simp; (try with_reducible rfl))
          try simp only [Act.put, List.setIfInBounds_toArray, List.set_cons_zero, List.set_cons_succ]
          refine wpAnyH_take (i := 14) (v := ?_) (by first | (simp only [List.getElem?_toArray, List.getElem?_cons_succ, List.getElem?_cons_zero]; rfl) | rfl) (by kernel_rfl) (by kernel_rfl) (by kernel_rfl) (fun _ _ _ h => h) (Or.inl ⟨by rfl, ?_⟩) (by assumption) ?_
          rotate_left 1
          · (intro w' hSw; (try dsimp only at hSw); go_simp; (try with_reducible rfl))
          try simp only [Act.put, List.setIfInBounds_toArray, List.set_cons_zero, List.set_cons_succ]
          refine wpAnyH_take (i := 15) (v := ?_) (by first | (simp only [List.getElem?_toArray, List.getElem?_cons_succ, List.getElem?_cons_zero]; rfl) | rfl) (by kernel_rfl) (by kernel_rfl) (by kernel_rfl) (fun _ _ _ h => h) (Or.inl ⟨by rfl, ?_⟩) (by assumption) ?_
          rotate_left 1
          · (intro w' hSw; (try dsimp only at hSw); go_simp; (try with_reducible rfl))
          try simp only [Act.put, List.setIfInBounds_toArray, List.set_cons_zero, List.set_cons_succ]
          refine wpAnyH_take (i := 16) (v := ?_) (by first | (simp only [List.getElem?_toArray, List.getElem?_cons_succ, List.getElem?_cons_zero]; rfl) | rfl) (by kernel_rfl) (by kernel_rfl) (by kernel_rfl) (fun _ _ _ h => h) (Or.inl ⟨by rfl, ?_⟩) (by assumption) ?_
          rotate_left 1
          · (intro w' hSw; (try dsimp only at hSw); go_simp; (try with_reducible rfl))
          try simp only [Act.put, List.setIfInBounds_toArray, List.set_cons_zero, List.set_cons_succ]
          refine wpAnyH_take (i := 17) (v := ?_) (by first | (simp only [List.getElem?_toArray, List.getElem?_cons_succ, List.getElem?_cons_zero]; rfl) | rfl) (by kernel_rfl) (by kernel_rfl) (by kernel_rfl) (fun _ _ _ h => h) (Or.inl ⟨by rfl, ?_⟩) (by assumption) ?_
          rotate_left 1
          · (intro w' hSw; (try dsimp only at hSw); go_simp; (try with_reducible rfl))
          try simp only [Act.put, List.setIfInBounds_toArray, List.set_cons_zero, List.set_cons_succ]
          refine wpAnyH_take (i := 18) (v := ?_) (by first | (simp only [List.getElem?_toArray, List.getElem?_cons_succ, List.getElem?_cons_zero]; rfl) | rfl) (by kernel_rfl) (by kernel_rfl) (by kernel_rfl) (fun _ _ _ h => h) (Or.inl ⟨by rfl, ?_⟩) (by assumption) ?_
          rotate_left 1
          · (intro w' hSw; (try dsimp only at hSw); go_simp; (try with_reducible rfl))
          try simp only [Act.put, List.setIfInBounds_toArray, List.set_cons_zero, List.set_cons_succ]
          refine wpAnyH_take (i := 19) (v := ?_) (by first | (simp only [List.getElem?_toArray, List.getElem?_cons_succ, List.getElem?_cons_zero]; rfl) | rfl) (by kernel_rfl) (by kernel_rfl) (by kernel_rfl) (fun _ _ _ h => h) (Or.inl ⟨by rfl, ?_⟩) (by assumption) ?_
          rotate_left 1
          · (intro w' hSw; (try dsimp only at hSw); go_simp; (try with_reducible rfl))
          try simp only [Act.put, List.setIfInBounds_toArray, List.set_cons_zero, List.set_cons_succ]
          refine wpAnyH_take (i := 20) (v := ?_) (by first | (simp only [List.getElem?_toArray, List.getElem?_cons_succ, List.getElem?_cons_zero]; rfl) | rfl) (by kernel_rfl) (by kernel_rfl) (by kernel_rfl) (fun _ _ _ h => h) (Or.inl ⟨by rfl, ?_⟩) (by assumption) ?_
          rotate_left 1
          · (intro w' hSw; (try dsimp only at hSw); go_simp; (try with_reducible rfl))
          try simp only [Act.put, List.setIfInBounds_toArray, List.set_cons_zero, List.set_cons_succ]
          refine wpAnyH_ready (rs := [21]) (by kernel_rfl) (by simp) ?_
          refine AllReadyH.cons (by first | (simp only [List.getElem?_toArray, List.getElem?_cons_succ, List.getElem?_cons_zero]; rfl) | rfl) (fun K hK => ?_) AllReadyH.nil
          go_simp
          refine (HOa.out W0 (HAz.out.trans (HVz.out.mono HAz.out.size))).mono ?_
          rintro e Wn ⟨v9, he, hma, hb, -⟩
          subst he
          dsimp only
          replace HVz := Lib.hid (HVz.out.trans (hb.mono HVz.out.size))
          have HMo := Lib.hid (show MeAt Wn (Lo Wn.heap.size) v9 a1 from hma.keep fun k hk => ⟨rfl, (hk.resolve_left (Nat.not_lt_zero k)).2⟩)
          clear hb hma
          obtain ⟨W0, rfl⟩ : ∃ W, W = Wn := ⟨Wn, rfl⟩
          refine hK.out _ _ (HSz.out _ HVz.out) (fun hHeld => ?_)
          clear hK K
          try simp only [Act.put, List.setIfInBounds_toArray, List.set_cons_zero, List.set_cons_succ]
          refine wpAnyH_ready (rs := [22]) (by kernel_rfl) (by simp) ?_
          refine AllReadyH.cons (by first | (simp only [List.getElem?_toArray, List.getElem?_cons_succ, List.getElem?_cons_zero]; rfl) | rfl) (fun K hK => ?_) AllReadyH.nil
          go_simp
          refine (sameM_any xm a1 _ _ W0 (HXm.out W0 HVz.out) HMo.out).mono ?_
          rintro e Wn ⟨he, hb⟩
          rw [hxs] at he
          subst he
          dsimp only
          replace HVz := Lib.hid (HVz.out.trans (hb.mono HVz.out.size))
          clear hb HMo
          obtain ⟨W0, rfl⟩ : ∃ W, W = Wn := ⟨Wn, rfl⟩
          refine hK.out _ _ (HSz.out _ HVz.out) (fun hHeld => ?_)
          clear hK K
          try simp only [Act.put, List.setIfInBounds_toArray, List.set_cons_zero, List.set_cons_succ]
          refine wpAnyH_take (i := 23) (v := ?_) (by first | (simp only [List.getElem?_toArray, List.getElem?_cons_succ, List.getElem?_cons_zero]; rfl) | rfl) (by kernel_rfl) (by kernel_rfl) (by kernel_rfl) (fun _ _ _ h => h) (Or.inl ⟨by rfl, ?_⟩) (by assumption) ?_
          rotate_left 1
          · (intro w' hSw; (try dsimp only at hSw); go_simp; (try with_reducible rfl))
          try simp only [Act.put, List.setIfInBounds_toArray, List.set_cons_zero, List.set_cons_succ]
          refine wpAnyH_take (i := 24) (v := ?_) (by first | (simp only [List.getElem?_toArray, List.getElem?_cons_succ, List.getElem?_cons_zero]; rfl) | rfl) (by kernel_rfl) (by kernel_rfl) (by kernel_rfl) (fun _ _ _ h => h) (Or.inl ⟨by rfl, ?_⟩) (by assumption) ?_
          rotate_left 1
          · (intro w' hSw; (try dsimp only at hSw); go_simp; (try with_reducible rfl))
          try simp only [Act.put, List.setIfInBounds_toArray, List.set_cons_zero, List.set_cons_succ]
          refine wpAnyH_done (by kernel_rfl) ?_ _
          refine HKK.out _ _ ?_
          go_wp2_with fail
          go_ret
          exact ⟨rfl, by rw [HT.out]; exact HBl.out.trans ((HAz.out.mono hTa).trans (HVz.out.mono (by have := HAz.out.size; omega)))⟩
        have hq0 : ¬ (0 : Int) < (a1.bd.length : Int) := by omega
        clear hb0
        go_upto_region 15 with (go_at_call 21; refine hwk.mono ?_; rintro e W7 ⟨rfl, hw7, hq7⟩; have HW7 := Lib.hid hw7; have HQ7 := Lib.hid hq7; have fX7 := cells6T ((hq7.block X lX (by have := lt_of_blk HX.out; have := HV2.out.size; omega) (by have := lt_of_blk HX.out; have := HV2.out.size; omega)).trans HXw.out); have lX7 := Nat.lt_of_lt_of_le lX hq7.size; clear hwk hw7 hq7 fX lX)
        obtain ⟨n9, hn9⟩ : ∃ n, min (cntL a1.bd) (L.length + 1) = n := ⟨_, rfl⟩
        have hXl := lt_of_blk HX.out
        have hV2s := HV2.out.size
        have HP0 := Lib.hid HW7.out.l
        have HP1 := Lib.hid HW7.out.n
        rw [hn9] at HP1
        have HP2 := Lib.hid HW7.out.s
        have HP3 := Lib.hid HW7.out.st
        have HXz := Lib.hid ((HQ7.out.block X (lt_of_blk HXw.out) (by omega) (by omega)).trans HXw.out)
        have hTX : T < W5.heap.size := by have := HB4.out.size; have := HV6.out.size; omega
        have HTz := Lib.hid ((HQ7.out.block T hTX (by have := HB4.out.size; omega) (by have := HB4.out.size; omega)).trans (((HB4.out.trans (HV6.out.mono HB4.out.size)).block T (by omega)).trans H1.out.2))
        have HAz := Lib.hid (show Below wa.heap.size wa W7 from (HB4.out.trans (HV6.out.mono HB4.out.size)).trans (HQ7.out.below (Nat.le_trans HB4.out.size HV6.out.size) (by have := HB4.out.size; omega)))
        have HXm := Lib.hid (fun (w' : World) (h : Below W7.heap.size W7 w') => show MeAt w' (Lo w'.heap.size) (.agg #[.string (mkB a1.nm), .slice A1 a1.ps.length n1, .slice A2 a1.ts.length n2, .int .i64 a1.pr, .slice A4 a1.bd.length c4, .int .i64 a1.at_]) a1 from HMa.out.1.keep fun k hk => ⟨(h.block k (by have := hk.2; have := HMa.out.2; have := HV6.out.size; have := HQ7.out.size; omega)).trans ((HQ7.out.block k (by have := hk.2; have := HMa.out.2; have := HV6.out.size; omega) (by have := hk.2; have := HMa.out.2; omega) (by have := hk.2; have := HMa.out.2; omega)).trans (HV6.out.block k (Nat.lt_of_lt_of_le hk.2 HMa.out.2))), by have := hk.2; have := HMa.out.2; have := HV6.out.size; have := HQ7.out.size; have := h.size; show k < w'.heap.size; omega⟩)
        have hxs : sameM a1 a1 = true := sameM_refl _
        have hf : decide (cntL a1.bd ≤ L.length) = ((((L.length) : Nat) : Int) == (L.length : Int)) := by
          rw [Bool.eq_iff_iff]
          simp only [decide_eq_true_eq, beq_iff_eq]
          have hle9 : L.length ≤ L.length := Nat.le_refl _
          have h9 := hLl
          constructor <;> intro h8 <;> first | trivial | omega
        have hmn : min ((((L.length) : Nat) : Int) + 1) (L.length : Int) = (n9 : Int) := by rw [← hn9, hLl]; omega
        have hTa : T ≤ wa.heap.size := by omega
        have hwr : IntKind.i64.wrap ((((L.length) : Nat) : Int) + 1) = (((L.length) : Nat) : Int) + 1 := by
          have hle9 : L.length ≤ L.length := Nat.le_refl _
          have h9 := hLl
          rw [IntKind.wrap_i64]; omega
        have HLl := Lib.hid hLl
        clear hLl
        go_upto_region 15 with fail
        rename_i KK hKK
        have HKK := Lib.hid hKK
        clear hKK
        have HSz : Hid (∀ w' : World, Below W7.heap.size W7 w' → (w'.cell? ⟨P + 1 + 1, 0, none⟩ = some (.bool true) ∧ w'.cell? ⟨P + 1 + 1 + 1, 0, none⟩ = some (.int .i64 ((L.length : Nat) : Int)) ∧ w'.cell? ⟨P, 0, none⟩ = some (.slice AL L.length cL) ∧ w'.cell? ⟨P + 1, 0, none⟩ = some (.int .i64 (n9 : Int)) ∧ w'.cell? ⟨X, 0, none⟩ = some (.string (mkB a1.nm)) ∧ w'.cell? ⟨X, 1, none⟩ = some (.slice A1 a1.ps.length n1) ∧ w'.cell? ⟨X, 2, none⟩ = some (.slice A2 a1.ts.length n2) ∧ w'.cell? ⟨X, 3, none⟩ = some (.int .i64 a1.pr) ∧ w'.cell? ⟨X, 4, none⟩ = some (.slice A4 a1.bd.length c4) ∧ w'.cell? ⟨X, 5, none⟩ = some (.int .i64 a1.at_) ∧ w'.cell? ⟨T, 0, none⟩ = some (.string (mkB a1.nm)) ∧ w'.cell? ⟨T, 1, none⟩ = some (.slice Aq a1.ps.length cq) ∧ w'.cell? ⟨T, 2, none⟩ = some (.slice Ar a1.ts.length cr) ∧ w'.cell? ⟨T, 3, none⟩ = some (.int .i64 a1.pr) ∧ w'.cell? ⟨T, 4, none⟩ = some (.slice As a1.bd.length cs) ∧ w'.cell? ⟨T, 5, none⟩ = some (.int .i64 a1.at_))) := Lib.hid (fun w' h => by
          obtain ⟨b2, _⟩ := cells1T ((h.block _ (lt_of_blk HP2.out)).trans HP2.out)
          obtain ⟨b3, _⟩ := cells1T ((h.block _ (lt_of_blk HP3.out)).trans HP3.out)
          obtain ⟨b0, _⟩ := cells1T ((h.block _ (lt_of_blk HP0.out)).trans HP0.out)
          obtain ⟨b1, _⟩ := cells1T ((h.block _ (lt_of_blk HP1.out)).trans HP1.out)
          obtain ⟨e0, e1, e2, e3, e4, e5, _⟩ := cells6T ((h.block X (lt_of_blk HXz.out)).trans HXz.out)
          obtain ⟨g0, g1, g2, g3, g4, g5, _⟩ := cells6T ((h.block T (lt_of_blk HTz.out)).trans HTz.out)
          exact ⟨b2, b3, b0, b1, e0, e1, e2, e3, e4, e5, g0, g1, g2, g3, g4, g5⟩)
        refine wp_region_noPanic ?_
        refine wp_region_held_drew (S := (fun w' : World => w'.cell? ⟨P + 1 + 1, 0, none⟩ = some (.bool true) ∧ w'.cell? ⟨P + 1 + 1 + 1, 0, none⟩ = some (.int .i64 ((L.length : Nat) : Int)) ∧ w'.cell? ⟨P, 0, none⟩ = some (.slice AL L.length cL) ∧ w'.cell? ⟨P + 1, 0, none⟩ = some (.int .i64 (n9 : Int)) ∧ w'.cell? ⟨X, 0, none⟩ = some (.string (mkB a1.nm)) ∧ w'.cell? ⟨X, 1, none⟩ = some (.slice A1 a1.ps.length n1) ∧ w'.cell? ⟨X, 2, none⟩ = some (.slice A2 a1.ts.length n2) ∧ w'.cell? ⟨X, 3, none⟩ = some (.int .i64 a1.pr) ∧ w'.cell? ⟨X, 4, none⟩ = some (.slice A4 a1.bd.length c4) ∧ w'.cell? ⟨X, 5, none⟩ = some (.int .i64 a1.at_) ∧ w'.cell? ⟨T, 0, none⟩ = some (.string (mkB a1.nm)) ∧ w'.cell? ⟨T, 1, none⟩ = some (.slice Aq a1.ps.length cq) ∧ w'.cell? ⟨T, 2, none⟩ = some (.slice Ar a1.ts.length cr) ∧ w'.cell? ⟨T, 3, none⟩ = some (.int .i64 a1.pr) ∧ w'.cell? ⟨T, 4, none⟩ = some (.slice As a1.bd.length cs) ∧ w'.cell? ⟨T, 5, none⟩ = some (.int .i64 a1.at_))) (by kernel_rfl) (HSz.out _ (Below.refl _ _).drew) (fun hHeld => ?_)
        obtain ⟨W0, hW0⟩ : ∃ W0, W7.drew = W0 := ⟨_, rfl⟩
        have HVz := Lib.hid (show Below W7.heap.size W7 W0 from by rw [← hW0]; exact (Below.refl _ _).drew)
        rw [hW0] at hHeld ⊢
        clear hW0
        refine wpAnyH_take (i := 0) (v := ?_) (by first | (simp only [List.getElem?_toArray, List.getElem?_cons_zero]; rfl) | rfl) (by kernel_rfl) (by kernel_rfl) (by kernel_rfl) (fun _ _ _ h => h) (Or.inl ⟨by rfl, ?_⟩) (by assumption) ?_
        rotate_left 1
        · (intro w' hSw; (try dsimp only at hSw); go_simp; (try with_reducible rfl))
        try simp only [Act.put, List.setIfInBounds_toArray, List.set_cons_zero, List.set_cons_succ]
        refine wpAnyH_take (i := 1) (v := ?_) (by first | (simp only [List.getElem?_toArray, List.getElem?_cons_succ, List.getElem?_cons_zero]; rfl) | rfl) (by kernel_rfl) (by kernel_rfl) (by kernel_rfl) (fun _ _ _ h => h) (Or.inl ⟨by rfl, ?_⟩) (by assumption) ?_
        rotate_left 1
        · (intro w' hSw; (try dsimp only at hSw); go_simp; (try with_reducible rfl))
        try simp only [Act.put, List.setIfInBounds_toArray, List.set_cons_zero, List.set_cons_succ]
        refine wpAnyH_take (i := 2) (v := ?_) (by first | (simp only [List.getElem?_toArray, List.getElem?_cons_succ, List.getElem?_cons_zero]; rfl) | rfl) (by kernel_rfl) (by kernel_rfl) (by kernel_rfl) (fun _ _ _ h => h) (Or.inl ⟨by rfl, ?_⟩) (by assumption) ?_
        rotate_left 1
        · (intro w' hSw; (try dsimp only at hSw); go_simp; (try with_reducible rfl))
        try simp only [Act.put, List.setIfInBounds_toArray, List.set_cons_zero, List.set_cons_succ]
        refine wpAnyH_take (i := 3) (v := ?_) (by first | (simp only [List.getElem?_toArray, List.getElem?_cons_succ, List.getElem?_cons_zero]; rfl) | rfl) (by kernel_rfl) (by kernel_rfl) (by kernel_rfl) (fun _ _ _ h => h) (Or.inl ⟨by rfl, ?_⟩) (by assumption) ?_
        rotate_left 1
        · (intro w' hSw; (try dsimp only at hSw); go_simp; (try with_reducible rfl))
        try simp only [Act.put, List.setIfInBounds_toArray, List.set_cons_zero, List.set_cons_succ]
        refine wpAnyH_take (i := 4) (v := ?_) (by first | (simp only [List.getElem?_toArray, List.getElem?_cons_succ, List.getElem?_cons_zero]; rfl) | rfl) (by kernel_rfl) (by kernel_rfl) (by kernel_rfl) (fun _ _ _ h => h) (Or.inl ⟨by rfl, ?_⟩) (by assumption) ?_
        rotate_left 1
        · (intro w' hSw; (try dsimp only at hSw); go_simp; (try with_reducible rfl))
        try simp only [Act.put, List.setIfInBounds_toArray, List.set_cons_zero, List.set_cons_succ]
        refine wpAnyH_take (i := 5) (v := ?_) (by first | (simp only [List.getElem?_toArray, List.getElem?_cons_succ, List.getElem?_cons_zero]; rfl) | rfl) (by kernel_rfl) (by kernel_rfl) (by kernel_rfl) (fun _ _ _ h => h) (Or.inl ⟨by rfl, ?_⟩) (by assumption) ?_
        rotate_left 1
        · (intro w' hSw; (try dsimp only at hSw); go_simp; (try with_reducible rfl))
        try simp only [Act.put, List.setIfInBounds_toArray, List.set_cons_zero, List.set_cons_succ]
        refine wpAnyH_take (i := 6) (v := ?_) (by first | (simp only [List.getElem?_toArray, List.getElem?_cons_succ, List.getElem?_cons_zero]; rfl) | rfl) (by kernel_rfl) (by kernel_rfl) (by kernel_rfl) (fun _ _ _ h => h) (Or.inl ⟨by rfl, ?_⟩) (by assumption) ?_
        rotate_left 1
        · (intro w' hSw; (try dsimp only at hSw); go_simp; (try with_reducible rfl))
        try simp only [Act.put, List.setIfInBounds_toArray, List.set_cons_zero, List.set_cons_succ]
        refine wpAnyH_take (i := 7) (v := ?_) (by first | (simp only [List.getElem?_toArray, List.getElem?_cons_succ, List.getElem?_cons_zero]; rfl) | rfl) (by kernel_rfl) (by kernel_rfl) (by kernel_rfl) (fun _ _ _ h => h) (Or.inl ⟨by rfl, ?_⟩) (by assumption) ?_
        rotate_left 1
        · (intro w' hSw; (try dsimp only at hSw); go_simp; (try with_reducible rfl))
        try simp only [Act.put, List.setIfInBounds_toArray, List.set_cons_zero, List.set_cons_succ]
        refine wpAnyH_take (i := 8) (v := ?_) (by first | (simp only [List.getElem?_toArray, List.getElem?_cons_succ, List.getElem?_cons_zero]; rfl) | rfl) (by kernel_rfl) (by kernel_rfl) (by kernel_rfl) (fun _ _ _ h => h) (Or.inl ⟨by rfl, ?_⟩) (by assumption) ?_
        rotate_left 1
        · (intro w' hSw; (try dsimp only at hSw); go_simp; (try with_reducible rfl))
        try simp only [Act.put, List.setIfInBounds_toArray, List.set_cons_zero, List.set_cons_succ]
        refine wpAnyH_take (i := 9) (v := ?_) (by first | (simp only [List.getElem?_toArray, List.getElem?_cons_succ, List.getElem?_cons_zero]; rfl) | rfl) (by kernel_rfl) (by kernel_rfl) (by kernel_rfl) (fun _ _ _ h => h) (Or.inl ⟨by rfl, ?_⟩) (by assumption) ?_
        rotate_left 1
        · (intro w' hSw; (try dsimp only at hSw); go_simp; (try with_reducible rfl))
        try simp only [Act.put, List.setIfInBounds_toArray, List.set_cons_zero, List.set_cons_succ]
        refine wpAnyH_take (i := 10) (v := ?_) (by first | (simp only [List.getElem?_toArray, List.getElem?_cons_succ, List.getElem?_cons_zero]; rfl) | rfl) (by kernel_rfl) (by kernel_rfl) (by kernel_rfl) (fun _ _ _ h => h) (Or.inl ⟨by rfl, ?_⟩) (by assumption) ?_
        rotate_left 1
        · (intro w' hSw; (try dsimp only at hSw); go_simp; (try with_reducible rfl))
        try simp only [Act.put, List.setIfInBounds_toArray, List.set_cons_zero, List.set_cons_succ]
        refine wpAnyH_take (i := 11) (v := ?_) (by first | (simp only [List.getElem?_toArray, List.getElem?_cons_succ, List.getElem?_cons_zero]; rfl) | rfl) (by kernel_rfl) (by kernel_rfl) (by kernel_rfl) (fun _ _ _ h => h) (Or.inl ⟨by rfl, ?_⟩) (by assumption) ?_
        rotate_left 1
        · (intro w' hSw; (try dsimp only at hSw); go_simp; (try with_reducible rfl))
        try simp only [Act.put, List.setIfInBounds_toArray, List.set_cons_zero, List.set_cons_succ]
        refine wpAnyH_take (i := 12) (v := ?_) (by first | (simp only [List.getElem?_toArray, List.getElem?_cons_succ, List.getElem?_cons_zero]; rfl) | rfl) (by kernel_rfl) (by kernel_rfl) (by kernel_rfl) (fun _ _ _ h => h) (Or.inl ⟨by rfl, ?_⟩) (by assumption) ?_
        rotate_left 1
        · (intro w' hSw; (try dsimp only at hSw); go_simp; (try with_reducible rfl))
        try simp only [Act.put, List.setIfInBounds_toArray, List.set_cons_zero, List.set_cons_succ]
        refine wpAnyH_take (i := 13) (v := ?_) (by first | (simp only [List.getElem?_toArray, List.getElem?_cons_succ, List.getElem?_cons_zero]; rfl) | rfl) (by kernel_rfl) (by kernel_rfl) (by kernel_rfl) (fun _ _ _ h => h) (Or.inl ⟨by rfl, ?_⟩) (by assumption) ?_
        rotate_left 1
        · (intro w' hSw; (try dsimp only at hSw); go_simp; (try with_reducible rfl))
        try simp only [Act.put, List.setIfInBounds_toArray, List.set_cons_zero, List.set_cons_succ]
        refine wpAnyH_take (i := 14) (v := ?_) (by first | (simp only [List.getElem?_toArray, List.getElem?_cons_succ, List.getElem?_cons_zero]; rfl) | rfl) (by kernel_rfl) (by kernel_rfl) (by kernel_rfl) (fun _ _ _ h => h) (Or.inl ⟨by rfl, ?_⟩) (by assumption) ?_
        rotate_left 1
        · (intro w' hSw; (try dsimp only at hSw); go_simp; (try with_reducible rfl))
        try simp only [Act.put, List.setIfInBounds_toArray, List.set_cons_zero, List.set_cons_succ]
        refine wpAnyH_take (i := 15) (v := ?_) (by first | (simp only [List.getElem?_toArray, List.getElem?_cons_succ, List.getElem?_cons_zero]; rfl) | rfl) (by kernel_rfl) (by kernel_rfl) (by kernel_rfl) (fun _ _ _ h => h) (Or.inl ⟨by rfl, ?_⟩) (by assumption) ?_
        rotate_left 1
        · (intro w' hSw; (try dsimp only at hSw); go_simp; (try with_reducible rfl))
        try simp only [Act.put, List.setIfInBounds_toArray, List.set_cons_zero, List.set_cons_succ]
        refine wpAnyH_take (i := 16) (v := ?_) (by first | (simp only [List.getElem?_toArray, List.getElem?_cons_succ, List.getElem?_cons_zero]; rfl) | rfl) (by kernel_rfl) (by kernel_rfl) (by kernel_rfl) (fun _ _ _ h => h) (Or.inl ⟨by rfl, ?_⟩) (by assumption) ?_
        rotate_left 1
        · (intro w' hSw; (try dsimp only at hSw); go_simp; (try with_reducible rfl))
        try simp only [Act.put, List.setIfInBounds_toArray, List.set_cons_zero, List.set_cons_succ]
        refine wpAnyH_take (i := 17) (v := ?_) (by first | (simp only [List.getElem?_toArray, List.getElem?_cons_succ, List.getElem?_cons_zero]; rfl) | rfl) (by kernel_rfl) (by kernel_rfl) (by kernel_rfl) (fun _ _ _ h => h) (Or.inl ⟨by rfl, ?_⟩) (by assumption) ?_
        rotate_left 1
        · (intro w' hSw; (try dsimp only at hSw); go_simp; (try with_reducible rfl))
        try simp only [Act.put, List.setIfInBounds_toArray, List.set_cons_zero, List.set_cons_succ]
        refine wpAnyH_take (i := 18) (v := ?_) (by first | (simp only [List.getElem?_toArray, List.getElem?_cons_succ, List.getElem?_cons_zero]; rfl) | rfl) (by kernel_rfl) (by kernel_rfl) (by kernel_rfl) (fun _ _ _ h => h) (Or.inl ⟨by rfl, ?_⟩) (by assumption) ?_
        rotate_left 1
        · (intro w' hSw; (try dsimp only at hSw); go_simp; (try with_reducible rfl))
        try simp only [Act.put, List.setIfInBounds_toArray, List.set_cons_zero, List.set_cons_succ]
        refine wpAnyH_take (i := 19) (v := ?_) (by first | (simp only [List.getElem?_toArray, List.getElem?_cons_succ, List.getElem?_cons_zero]; rfl) | rfl) (by kernel_rfl) (by kernel_rfl) (by kernel_rfl) (fun _ _ _ h => h) (Or.inl ⟨by rfl, ?_⟩) (by assumption) ?_
        rotate_left 1
        · (intro w' hSw; (try dsimp only at hSw); go_simp; (try with_reducible rfl))
        try simp only [Act.put, List.setIfInBounds_toArray, List.set_cons_zero, List.set_cons_succ]
        refine wpAnyH_take (i := 20) (v := ?_) (by first | (simp only [List.getElem?_toArray, List.getElem?_cons_succ, List.getElem?_cons_zero]; rfl) | rfl) (by kernel_rfl) (by kernel_rfl) (by kernel_rfl) (fun _ _ _ h => h) (Or.inl ⟨by rfl, ?_⟩) (by assumption) ?_
        rotate_left 1
        · (intro w' hSw; (try dsimp only at hSw); go_simp; (try with_reducible rfl))
        try simp only [Act.put, List.setIfInBounds_toArray, List.set_cons_zero, List.set_cons_succ]
        refine wpAnyH_ready (rs := [21]) (by kernel_rfl) (by simp) ?_
        refine AllReadyH.cons (by first | (simp only [List.getElem?_toArray, List.getElem?_cons_succ, List.getElem?_cons_zero]; rfl) | rfl) (fun K hK => ?_) AllReadyH.nil
        go_simp
        refine (HOa.out W0 (HAz.out.trans (HVz.out.mono HAz.out.size))).mono ?_
        rintro e Wn ⟨v9, he, hma, hb, -⟩
        subst he
        dsimp only
        replace HVz := Lib.hid (HVz.out.trans (hb.mono HVz.out.size))
        have HMo := Lib.hid (show MeAt Wn (Lo Wn.heap.size) v9 a1 from hma.keep fun k hk => ⟨rfl, (hk.resolve_left (Nat.not_lt_zero k)).2⟩)
        clear hb hma
        obtain ⟨W0, rfl⟩ : ∃ W, W = Wn := ⟨Wn, rfl⟩
        refine hK.out _ _ (HSz.out _ HVz.out) (fun hHeld => ?_)
        clear hK K
        try simp only [Act.put, List.setIfInBounds_toArray, List.set_cons_zero, List.set_cons_succ]
        refine wpAnyH_ready (rs := [22]) (by kernel_rfl) (by simp) ?_
        refine AllReadyH.cons (by first | (simp only [List.getElem?_toArray, List.getElem?_cons_succ, List.getElem?_cons_zero]; rfl) | rfl) (fun K hK => ?_) AllReadyH.nil
        go_simp
        refine (sameM_any a1 a1 _ _ W0 (HXm.out W0 HVz.out) HMo.out).mono ?_
        rintro e Wn ⟨he, hb⟩
        rw [hxs] at he
        subst he
        dsimp only
        replace HVz := Lib.hid (HVz.out.trans (hb.mono HVz.out.size))
        clear hb HMo
        obtain ⟨W0, rfl⟩ : ∃ W, W = Wn := ⟨Wn, rfl⟩
        refine hK.out _ _ (HSz.out _ HVz.out) (fun hHeld => ?_)
        clear hK K
        try simp only [Act.put, List.setIfInBounds_toArray, List.set_cons_zero, List.set_cons_succ]
        refine wpAnyH_take (i := 23) (v := ?_) (by first | (simp only [List.getElem?_toArray, List.getElem?_cons_succ, List.getElem?_cons_zero]; rfl) | rfl) (by kernel_rfl) (by kernel_rfl) (by kernel_rfl) (fun _ _ _ h => h) (Or.inl ⟨by rfl, ?_⟩) (by assumption) ?_
        rotate_left 1
        · (intro w' hSw; (try dsimp only at hSw); go_simp; (try with_reducible rfl))
        try simp only [Act.put, List.setIfInBounds_toArray, List.set_cons_zero, List.set_cons_succ]
        refine wpAnyH_take (i := 24) (v := ?_) (by first | (simp only [List.getElem?_toArray, List.getElem?_cons_succ, List.getElem?_cons_zero]; rfl) | rfl) (by kernel_rfl) (by kernel_rfl) (by kernel_rfl) (fun _ _ _ h => h) (Or.inl ⟨by rfl, ?_⟩) (by assumption) ?_
        rotate_left 1
        · (intro w' hSw; (try dsimp only at hSw); go_simp; (try with_reducible rfl))
        try simp only [Act.put, List.setIfInBounds_toArray, List.set_cons_zero, List.set_cons_succ]
        refine wpAnyH_done (by kernel_rfl) ?_ _
        refine HKK.out _ _ ?_
        go_wp2_with fail
        go_ret
        exact ⟨rfl, by rw [HT.out]; exact HBl.out.trans ((HAz.out.mono hTa).trans (HVz.out.mono (by have := HAz.out.size; omega)))⟩
      obtain ⟨kk, rfl⟩ : ∃ k : Nat, at_ = (k : Int) := ⟨at_.toNat, by omega⟩
      have hkk : kk ≤ L.length := by omega
      go_upto_region 12 with fail
      obtain ⟨W6, hW6⟩ : ∃ W, W5.setCell ⟨P + 1 + 1 + 1, 0, none⟩ (.int .i64 (kk : Int)) = W := ⟨_, rfl⟩
      have r3 : W6.heap[P + 1 + 1 + 1]? = some (.cells #[.int .i64 (kk : Int)] 3 (0, 0)) := by rw [← hW6]; exact heap_setCell_same W5 (P + 1 + 1 + 1) 0 _ _ (.int .i64 (kk : Int)) p3
      have r0 : W6.heap[P]? = some (.cells #[.slice AL L.length cL] 23 (0, 0)) := by rw [← hW6]; exact (Below.heap_setCell W5 ⟨P + 1 + 1 + 1, 0, none⟩ _ P (by show P ≠ P + 1 + 1 + 1; omega)).trans p0
      have r1 : W6.heap[P + 1]? = some (.cells #[.int .i64 0] 3 (0, 0)) := by rw [← hW6]; exact (Below.heap_setCell W5 ⟨P + 1 + 1 + 1, 0, none⟩ _ (P + 1) (by show P + 1 ≠ P + 1 + 1 + 1; omega)).trans p1
      have r2 : W6.heap[P + 1 + 1]? = some (.cells #[.bool true] 4 (0, 0)) := by rw [← hW6]; exact (Below.heap_setCell W5 ⟨P + 1 + 1 + 1, 0, none⟩ _ (P + 1 + 1) (by show P + 1 + 1 ≠ P + 1 + 1 + 1; omega)).trans p2
      have hb6 : Below W2.heap.size W2 W6 := by rw [← hW6]; exact hb5.setCell (p := ⟨P + 1 + 1 + 1, 0, none⟩) (by show W2.heap.size ≤ P + 1 + 1 + 1; omega) _
      rw [hW6]
      clear hW6 p0 p1 p2 p3 g0 g3
      have hws : WsI W6 P (P + 1) AL cL L 0 (kk) := ⟨r0, by simpa using r1, r2, r3, hrd.below (by have := hb6; rwa [hP] at this) (Nat.le_refl _), Nat.lt_succ_self _⟩
      have HV6 := Lib.hid (HV2.out.trans (hb6.mono (Nat.le_trans (Nat.le_of_eq rfl) HV2.out.size)))
      have hwk := walkM_any a1 (.agg #[.string (mkB a1.nm), .slice A1 a1.ps.length n1, .slice A2 a1.ts.length n2, .int .i64 a1.pr, .slice A4 a1.bd.length c4, .int .i64 a1.at_]) AL cL P (P + 1) (kk) L W6 (HMa.out.1.keep fun k hk => ⟨HV6.out.block k (Nat.lt_of_lt_of_le hk.2 HMa.out.2), show k < P by have := HMa.out.2; have := HV2.out.size; have := hk.2; omega⟩) hws (hkk) (by rw [hLl]; exact hc9) hL1
      have HXw := Lib.hid ((HV6.out.block X (lt_of_blk HX.out)).trans HX.out)
      have fX := cells6T HXw.out
      have lX := lt_of_blk HXw.out
      by_cases hb0 : 0 < a1.bd.length
      · obtain ⟨y, es', rfl⟩ : ∃ y l, es = y :: l := by
          cases es with
          | nil =>
            have := congrArg List.length HE1.out
            simp only [List.map_nil, List.length_nil] at this
            omega
          | cons y l => exact ⟨y, l, rfl⟩
        obtain ⟨g, rfl⟩ : ∃ g, A4 = some ⟨g, 0, none⟩ := by
          rcases HEa.out.1.2 with ⟨_, e2⟩ | ⟨g, cap, cur, e1, _⟩
          · simp at e2
          · injection e1 with e1
            exact ⟨g, e1⟩
        have hbd : a1.bd = y.1 :: es'.map (fun x => x.1) := HE1.out.symm
        have hl9 : a1.bd.length = (y :: es').length := by rw [hbd]; simp
        have hGg := HGe.out g rfl
        have hEa := HEa.out
        rw [hl9] at hEa
        have HBD := Lib.hid hbd
        have hV6s := HV6.out.size
        have hV2s := HV2.out.size
        have hHa := HMa.out.2
        have HT7 : Hid (∀ W7, OvQ (P + 1) W6 W7 → W7.cell? ⟨g, 5, none⟩ = some (.int .i64 y.1.at_) ∧ W7.frozen? ⟨g, 5, none⟩ = false ∧ g < W7.heap.size ∧ la ≤ g ∧ MeAt (W7.setCell ⟨g, 5, none⟩ (.int .i64 (wrap64 (y.1.at_ + 1)))) (Lo W7.heap.size) (.agg #[.string (mkB a1.nm), .slice A1 a1.ps.length n1, .slice A2 a1.ts.length n2, .int .i64 a1.pr, .slice (some ⟨g, 0, none⟩) a1.bd.length c4, .int .i64 a1.at_]) { a1 with bd := withAt y.1 (wrap64 (y.1.at_ + 1)) :: es'.map fun x => x.1 }) := Lib.hid (fun W7 hq => by
          have hq7s := hq.size
          have hkk : ∀ k, k < ha → W7.heap[k]? = wb.heap[k]? := fun k hk => (hq.block k (by omega) (by omega) (by omega)).trans (HV6.out.block k (by omega))
          have hPW : wb.heap.size ≤ W7.heap.size := by omega
          refine turnT (la := la) (x := y) (es := es') _ (HMa.out.1.keep fun k hk => ⟨hkk k hk.2, by show k < W7.heap.size; have := hk.2; omega⟩) (OwnP.keepO hEa.1 fun k hk => ?_) (fun z hz => (hEa.2 z hz).keep fun k hk => ?_) hbd
          · have e : g = k := by injection hk
            subst e
            exact hkk g hGg.2
          · rcases hk with h | ⟨h1, h2, h3⟩
            · exact absurd h (Nat.not_lt_zero k)
            · exact ⟨hkk k h2, .inr ⟨h1, by omega, h3⟩⟩)
        have hq1 : (0 : Int) < (a1.bd.length : Int) := by omega
        clear hbd hl9 hEa hb0
        go_upto_region 15 with (go_at_call 21; refine hwk.mono ?_; rintro e W7 ⟨rfl, hw7, hq7⟩; have HW7 := Lib.hid hw7; have HQ7 := Lib.hid hq7; have fX7 := cells6T ((hq7.block X lX (by have := lt_of_blk HX.out; have := HV2.out.size; omega) (by have := lt_of_blk HX.out; have := HV2.out.size; omega)).trans HXw.out); have lX7 := Nat.lt_of_lt_of_le lX hq7.size; obtain ⟨c5, z5, l5, -, hme7⟩ := HT7.out W7 hq7; have HME7 := Lib.hid hme7; clear hwk hw7 hq7 fX lX hme7)
        obtain ⟨n9, hn9⟩ : ∃ n, min (cntL a1.bd) (kk + 1) = n := ⟨_, rfl⟩
        have hXl := lt_of_blk HX.out
        have hgX : X ≠ g := by have := HNm.out.2.2.1; omega
        have hq7s := HQ7.out.size
        obtain ⟨W8, hW8⟩ : ∃ W, W7.setCell ⟨g, 5, none⟩ (.int .i64 (wrap64 (y.1.at_ + 1))) = W := ⟨_, rfl⟩
        have hk8 : ∀ k, k ≠ g → W8.heap[k]? = W7.heap[k]? := fun k hk => by rw [← hW8]; exact Below.heap_setCell W7 ⟨g, 5, none⟩ _ k hk
        have hs8 : W8.heap.size = W7.heap.size := by rw [← hW8]; simp [World.setCell]
        obtain ⟨xm, hxm⟩ : ∃ m : Me, { a1 with bd := withAt y.1 (wrap64 (y.1.at_ + 1)) :: es'.map fun x => x.1 } = m := ⟨_, rfl⟩
        have hme8 := HME7.out
        rw [hW8, hxm] at hme8
        have hgP : g < P := by have := hGg.2; omega
        have HP0 := Lib.hid ((hk8 _ (by omega)).trans HW7.out.l)
        have HP1 := Lib.hid ((hk8 _ (by omega)).trans HW7.out.n)
        rw [hn9] at HP1
        have HP2 := Lib.hid ((hk8 _ (by omega)).trans HW7.out.s)
        have HP3 := Lib.hid ((hk8 _ (by omega)).trans HW7.out.st)
        have HXz := Lib.hid ((hk8 X hgX).trans ((HQ7.out.block X (lt_of_blk HXw.out) (by omega) (by omega)).trans HXw.out))
        have hTX : T < W6.heap.size := by have := HB4.out.size; have := HV6.out.size; omega
        have hTg : T ≠ g := by have := HNm.out.2.1.1; have := hGg.1; omega
        have HTz := Lib.hid ((hk8 T hTg).trans ((HQ7.out.block T hTX (by have := HB4.out.size; omega) (by have := HB4.out.size; omega)).trans (((HB4.out.trans (HV6.out.mono HB4.out.size)).block T (by omega)).trans H1.out.2)))
        have hAg : wa.heap.size ≤ g := by have := HNm.out.2.1.1; have := hGg.1; omega
        have HAz := Lib.hid (show Below wa.heap.size wa W8 from by rw [← hW8]; exact ((HB4.out.trans (HV6.out.mono HB4.out.size)).trans (HQ7.out.below (Nat.le_trans HB4.out.size HV6.out.size) (by have := HB4.out.size; omega))).setCell (p := ⟨g, 5, none⟩) hAg _)
        have HXm := Lib.hid (fun (w' : World) (h : Below W8.heap.size W8 w') => show MeAt w' (Lo w'.heap.size) (.agg #[.string (mkB a1.nm), .slice A1 a1.ps.length n1, .slice A2 a1.ts.length n2, .int .i64 a1.pr, .slice (some ⟨g, 0, none⟩) a1.bd.length c4, .int .i64 a1.at_]) xm from hme8.keep fun k hk => ⟨h.block k (by rw [hs8]; exact hk), by have := h.size; rw [hs8] at this; exact Nat.lt_of_lt_of_le hk this⟩)
        have hxs : sameM xm a1 = true := by rw [← hxm]; exact sameM_withAt a1 y.1 _ _ HBD.out
        have hf : decide (cntL a1.bd ≤ kk) = ((((kk) : Nat) : Int) == (L.length : Int)) := by
          rw [Bool.eq_iff_iff]
          simp only [decide_eq_true_eq, beq_iff_eq]
          have hle9 : kk ≤ L.length := hkk
          have h9 := hLl
          constructor <;> intro h8 <;> first | trivial | omega
        have hmn : min ((((kk) : Nat) : Int) + 1) (L.length : Int) = (n9 : Int) := by rw [← hn9, hLl]; omega
        have hTa : T ≤ wa.heap.size := by omega
        have hwr : IntKind.i64.wrap ((((kk) : Nat) : Int) + 1) = (((kk) : Nat) : Int) + 1 := by
          have hle9 : kk ≤ L.length := hkk
          have h9 := hLl
          rw [IntKind.wrap_i64]; omega
        rw [hW8]
        have HLl := Lib.hid hLl
        clear hLl hW8 hk8 hxm hme8 hq1 c5 z5 l5 HME7 HT7 HBD hs8 hgX hTg hAg hgP hGg hV6s hHa
        go_upto_region 15 with fail
        rename_i KK hKK
        have HKK := Lib.hid hKK
        clear hKK
        have HSz : Hid (∀ w' : World, Below W8.heap.size W8 w' → (w'.cell? ⟨P + 1 + 1, 0, none⟩ = some (.bool true) ∧ w'.cell? ⟨P + 1 + 1 + 1, 0, none⟩ = some (.int .i64 ((kk : Nat) : Int)) ∧ w'.cell? ⟨P, 0, none⟩ = some (.slice AL L.length cL) ∧ w'.cell? ⟨P + 1, 0, none⟩ = some (.int .i64 (n9 : Int)) ∧ w'.cell? ⟨X, 0, none⟩ = some (.string (mkB a1.nm)) ∧ w'.cell? ⟨X, 1, none⟩ = some (.slice A1 a1.ps.length n1) ∧ w'.cell? ⟨X, 2, none⟩ = some (.slice A2 a1.ts.length n2) ∧ w'.cell? ⟨X, 3, none⟩ = some (.int .i64 a1.pr) ∧ w'.cell? ⟨X, 4, none⟩ = some (.slice (some ⟨g, 0, none⟩) a1.bd.length c4) ∧ w'.cell? ⟨X, 5, none⟩ = some (.int .i64 a1.at_) ∧ w'.cell? ⟨T, 0, none⟩ = some (.string (mkB a1.nm)) ∧ w'.cell? ⟨T, 1, none⟩ = some (.slice Aq a1.ps.length cq) ∧ w'.cell? ⟨T, 2, none⟩ = some (.slice Ar a1.ts.length cr) ∧ w'.cell? ⟨T, 3, none⟩ = some (.int .i64 a1.pr) ∧ w'.cell? ⟨T, 4, none⟩ = some (.slice As a1.bd.length cs) ∧ w'.cell? ⟨T, 5, none⟩ = some (.int .i64 a1.at_))) := Lib.hid (fun w' h => by
          obtain ⟨b2, _⟩ := cells1T ((h.block _ (lt_of_blk HP2.out)).trans HP2.out)
          obtain ⟨b3, _⟩ := cells1T ((h.block _ (lt_of_blk HP3.out)).trans HP3.out)
          obtain ⟨b0, _⟩ := cells1T ((h.block _ (lt_of_blk HP0.out)).trans HP0.out)
          obtain ⟨b1, _⟩ := cells1T ((h.block _ (lt_of_blk HP1.out)).trans HP1.out)
          obtain ⟨e0, e1, e2, e3, e4, e5, _⟩ := cells6T ((h.block X (lt_of_blk HXz.out)).trans HXz.out)
          obtain ⟨g0, g1, g2, g3, g4, g5, _⟩ := cells6T ((h.block T (lt_of_blk HTz.out)).trans HTz.out)
          exact ⟨b2, b3, b0, b1, e0, e1, e2, e3, e4, e5, g0, g1, g2, g3, g4, g5⟩)
        refine wp_region_noPanic ?_
        refine wp_region_held_drew (S := (fun w' : World => w'.cell? ⟨P + 1 + 1, 0, none⟩ = some (.bool true) ∧ w'.cell? ⟨P + 1 + 1 + 1, 0, none⟩ = some (.int .i64 ((kk : Nat) : Int)) ∧ w'.cell? ⟨P, 0, none⟩ = some (.slice AL L.length cL) ∧ w'.cell? ⟨P + 1, 0, none⟩ = some (.int .i64 (n9 : Int)) ∧ w'.cell? ⟨X, 0, none⟩ = some (.string (mkB a1.nm)) ∧ w'.cell? ⟨X, 1, none⟩ = some (.slice A1 a1.ps.length n1) ∧ w'.cell? ⟨X, 2, none⟩ = some (.slice A2 a1.ts.length n2) ∧ w'.cell? ⟨X, 3, none⟩ = some (.int .i64 a1.pr) ∧ w'.cell? ⟨X, 4, none⟩ = some (.slice (some ⟨g, 0, none⟩) a1.bd.length c4) ∧ w'.cell? ⟨X, 5, none⟩ = some (.int .i64 a1.at_) ∧ w'.cell? ⟨T, 0, none⟩ = some (.string (mkB a1.nm)) ∧ w'.cell? ⟨T, 1, none⟩ = some (.slice Aq a1.ps.length cq) ∧ w'.cell? ⟨T, 2, none⟩ = some (.slice Ar a1.ts.length cr) ∧ w'.cell? ⟨T, 3, none⟩ = some (.int .i64 a1.pr) ∧ w'.cell? ⟨T, 4, none⟩ = some (.slice As a1.bd.length cs) ∧ w'.cell? ⟨T, 5, none⟩ = some (.int .i64 a1.at_))) (by kernel_rfl) (HSz.out _ (Below.refl _ _).drew) (fun hHeld => ?_)
        obtain ⟨W0, hW0⟩ : ∃ W0, W8.drew = W0 := ⟨_, rfl⟩
        have HVz := Lib.hid (show Below W8.heap.size W8 W0 from by rw [← hW0]; exact (Below.refl _ _).drew)
        rw [hW0] at hHeld ⊢
        clear hW0
        refine wpAnyH_take (i := 0) (v := ?_) (by first | (simp only [List.getElem?_toArray, List.getElem?_cons_zero]; rfl) | rfl) (by kernel_rfl) (by kernel_rfl) (by kernel_rfl) (fun _ _ _ h => h) (Or.inl ⟨by rfl, ?_⟩) (by assumption) ?_
        rotate_left 1
        · (intro w' hSw; (try dsimp only at hSw); go_simp; (try with_reducible rfl))
        try simp only [Act.put, List.setIfInBounds_toArray, List.set_cons_zero, List.set_cons_succ]
        refine wpAnyH_take (i := 1) (v := ?_) (by first | (simp only [List.getElem?_toArray, List.getElem?_cons_succ, List.getElem?_cons_zero]; rfl) | rfl) (by kernel_rfl) (by kernel_rfl) (by kernel_rfl) (fun _ _ _ h => h) (Or.inl ⟨by rfl, ?_⟩) (by assumption) ?_
        rotate_left 1
        · (intro w' hSw; (try dsimp only at hSw); go_simp; (try with_reducible rfl))
        try simp only [Act.put, List.setIfInBounds_toArray, List.set_cons_zero, List.set_cons_succ]
        refine wpAnyH_take (i := 2) (v := ?_) (by first | (simp only [List.getElem?_toArray, List.getElem?_cons_succ, List.getElem?_cons_zero]; rfl) | rfl) (by kernel_rfl) (by kernel_rfl) (by kernel_rfl) (fun _ _ _ h => h) (Or.inl ⟨by rfl, ?_⟩) (by assumption) ?_
        rotate_left 1
        · (intro w' hSw; (try dsimp only at hSw); go_simp; (try with_reducible rfl))
        try simp only [Act.put, List.setIfInBounds_toArray, List.set_cons_zero, List.set_cons_succ]
        refine wpAnyH_take (i := 3) (v := ?_) (by first | (simp only [List.getElem?_toArray, List.getElem?_cons_succ, List.getElem?_cons_zero]; rfl) | rfl) (by kernel_rfl) (by kernel_rfl) (by kernel_rfl) (fun _ _ _ h => h) (Or.inl ⟨by rfl, ?_⟩) (by assumption) ?_
        rotate_left 1
        · (intro w' hSw; (try dsimp only at hSw); go_simp; (try with_reducible rfl))
        try simp only [Act.put, List.setIfInBounds_toArray, List.set_cons_zero, List.set_cons_succ]
        refine wpAnyH_take (i := 4) (v := ?_) (by first | (simp only [List.getElem?_toArray, List.getElem?_cons_succ, List.getElem?_cons_zero]; rfl) | rfl) (by kernel_rfl) (by kernel_rfl) (by kernel_rfl) (fun _ _ _ h => h) (Or.inl ⟨by rfl, ?_⟩) (by assumption) ?_
        rotate_left 1
        · (intro w' hSw; (try dsimp only at hSw); go_simp; (try with_reducible rfl))
        try simp only [Act.put, List.setIfInBounds_toArray, List.set_cons_zero, List.set_cons_succ]
        refine wpAnyH_take (i := 5) (v := ?_) (by first | (simp only [List.getElem?_toArray, List.getElem?_cons_succ, List.getElem?_cons_zero]; rfl) | rfl) (by kernel_rfl) (by kernel_rfl) (by kernel_rfl) (fun _ _ _ h => h) (Or.inl ⟨by rfl, ?_⟩) (by assumption) ?_
        rotate_left 1
        · (intro w' hSw; (try dsimp only at hSw); go_simp; (try with_reducible rfl))
        try simp only [Act.put, List.setIfInBounds_toArray, List.set_cons_zero, List.set_cons_succ]
        refine wpAnyH_take (i := 6) (v := ?_) (by first | (simp only [List.getElem?_toArray, List.getElem?_cons_succ, List.getElem?_cons_zero]; rfl) | rfl) (by kernel_rfl) (by kernel_rfl) (by kernel_rfl) (fun _ _ _ h => h) (Or.inl ⟨by rfl, ?_⟩) (by assumption) ?_
        rotate_left 1
        · (intro w' hSw; (try dsimp only at hSw); go_simp; (try with_reducible rfl))
        try simp only [Act.put, List.setIfInBounds_toArray, List.set_cons_zero, List.set_cons_succ]
        refine wpAnyH_take (i := 7) (v := ?_) (by first | (simp only [List.getElem?_toArray, List.getElem?_cons_succ, List.getElem?_cons_zero]; rfl) | rfl) (by kernel_rfl) (by kernel_rfl) (by kernel_rfl) (fun _ _ _ h => h) (Or.inl ⟨by rfl, ?_⟩) (by assumption) ?_
        rotate_left 1
        · (intro w' hSw; (try dsimp only at hSw); go_simp; (try with_reducible rfl))
        try simp only [Act.put, List.setIfInBounds_toArray, List.set_cons_zero, List.set_cons_succ]
        refine wpAnyH_take (i := 8) (v := ?_) (by first | (simp only [List.getElem?_toArray, List.getElem?_cons_succ, List.getElem?_cons_zero]; rfl) | rfl) (by kernel_rfl) (by kernel_rfl) (by kernel_rfl) (fun _ _ _ h => h) (Or.inl ⟨by rfl, ?_⟩) (by assumption) ?_
        rotate_left 1
        · (intro w' hSw; (try dsimp only at hSw); go_simp; (try with_reducible rfl))
        try simp only [Act.put, List.setIfInBounds_toArray, List.set_cons_zero, List.set_cons_succ]
        refine wpAnyH_take (i := 9) (v := ?_) (by first | (simp only [List.getElem?_toArray, List.getElem?_cons_succ, List.getElem?_cons_zero]; rfl) | rfl) (by kernel_rfl) (by kernel_rfl) (by kernel_rfl) (fun _ _ _ h => h) (Or.inl ⟨by rfl, ?_⟩) (by assumption) ?_
        rotate_left 1
        · (intro w' hSw; (try dsimp only at hSw); go_simp; (try with_reducible rfl))
        try simp only [Act.put, List.setIfInBounds_toArray, List.set_cons_zero, List.set_cons_succ]
        refine wpAnyH_take (i := 10) (v := ?_) (by first | (simp only [List.getElem?_toArray, List.getElem?_cons_succ, List.getElem?_cons_zero]; rfl) | rfl) (by kernel_rfl) (by kernel_rfl) (by kernel_rfl) (fun _ _ _ h => h) (Or.inl ⟨by rfl, ?_⟩) (by assumption) ?_
        rotate_left 1
        · (intro w' hSw; (try dsimp only at hSw); go_simp; (try with_reducible rfl))
        try simp only [Act.put, List.setIfInBounds_toArray, List.set_cons_zero, List.set_cons_succ]
        refine wpAnyH_take (i := 11) (v := ?_) (by first | (simp only [List.getElem?_toArray, List.getElem?_cons_succ, List.getElem?_cons_zero]; rfl) | rfl) (by kernel_rfl) (by kernel_rfl) (by kernel_rfl) (fun _ _ _ h => h) (Or.inl ⟨by rfl, ?_⟩) (by assumption) ?_
        rotate_left 1
        · (intro w' hSw; (try dsimp only at hSw); go_simp; (try with_reducible rfl))
        try simp only [Act.put, List.setIfInBounds_toArray, List.set_cons_zero, List.set_cons_succ]
        refine wpAnyH_take (i := 12) (v := ?_) (by first | (simp only [List.getElem?_toArray, List.getElem?_cons_succ, List.getElem?_cons_zero]; rfl) | rfl) (by kernel_rfl) (by kernel_rfl) (by kernel_rfl) (fun _ _ _ h => h) (Or.inl ⟨by rfl, ?_⟩) (by assumption) ?_
        rotate_left 1
        · (intro w' hSw; (try dsimp only at hSw); go_simp; (try with_reducible rfl))
        try simp only [Act.put, List.setIfInBounds_toArray, List.set_cons_zero, List.set_cons_succ]
        refine wpAnyH_take (i := 13) (v := ?_) (by first | (simp only [List.getElem?_toArray, List.getElem?_cons_succ, List.getElem?_cons_zero]; rfl) | rfl) (by kernel_rfl) (by kernel_rfl) (by kernel_rfl) (fun _ _ _ h => h) (Or.inl ⟨by rfl, ?_⟩) (by assumption) ?_
        rotate_left 1
        · (intro w' hSw; (try dsimp only at hSw); go_simp; (try with_reducible rfl))
        try simp only [Act.put, List.setIfInBounds_toArray, List.set_cons_zero, List.set_cons_succ]
        refine wpAnyH_take (i := 14) (v := ?_) (by first | (simp only [List.getElem?_toArray, List.getElem?_cons_succ, List.getElem?_cons_zero]; rfl) | rfl) (by kernel_rfl) (by kernel_rfl) (by kernel_rfl) (fun _ _ _ h => h) (Or.inl ⟨by rfl, ?_⟩) (by assumption) ?_
        rotate_left 1
        · (intro w' hSw; (try dsimp only at hSw); go_simp; (try with_reducible rfl))
        try simp only [Act.put, List.setIfInBounds_toArray, List.set_cons_zero, List.set_cons_succ]
        refine wpAnyH_take (i := 15) (v := ?_) (by first | (simp only [List.getElem?_toArray, List.getElem?_cons_succ, List.getElem?_cons_zero]; rfl) | rfl) (by kernel_rfl) (by kernel_rfl) (by kernel_rfl) (fun _ _ _ h => h) (Or.inl ⟨by rfl, ?_⟩) (by assumption) ?_
        rotate_left 1
        · (intro w' hSw; (try dsimp only at hSw); go_simp; (try with_reducible rfl))
        try simp only [Act.put, List.setIfInBounds_toArray, List.set_cons_zero, List.set_cons_succ]
        refine wpAnyH_take (i := 16) (v := ?_) (by first | (simp only [List.getElem?_toArray, List.getElem?_cons_succ, List.getElem?_cons_zero]; rfl) | rfl) (by kernel_rfl) (by kernel_rfl) (by kernel_rfl) (fun _ _ _ h => h) (Or.inl ⟨by rfl, ?_⟩) (by assumption) ?_
        rotate_left 1
        · (intro w' hSw; (try dsimp only at hSw); go_simp; (try with_reducible rfl))
        try simp only [Act.put, List.setIfInBounds_toArray, List.set_cons_zero, List.set_cons_succ]
        refine wpAnyH_take (i := 17) (v := ?_) (by first | (simp only [List.getElem?_toArray, List.getElem?_cons_succ, List.getElem?_cons_zero]; rfl) | rfl) (by kernel_rfl) (by kernel_rfl) (by kernel_rfl) (fun _ _ _ h => h) (Or.inl ⟨by rfl, ?_⟩) (by assumption) ?_
        rotate_left 1
        · (intro w' hSw; (try dsimp only at hSw); go_simp; (try with_reducible rfl))
        try simp only [Act.put, List.setIfInBounds_toArray, List.set_cons_zero, List.set_cons_succ]
        refine wpAnyH_take (i := 18) (v := ?_) (by first | (simp only [List.getElem?_toArray, List.getElem?_cons_succ, List.getElem?_cons_zero]; rfl) | rfl) (by kernel_rfl) (by kernel_rfl) (by kernel_rfl) (fun _ _ _ h => h) (Or.inl ⟨by rfl, ?_⟩) (by assumption) ?_
        rotate_left 1
        · (intro w' hSw; (try dsimp only at hSw); go_simp; (try with_reducible rfl))
        try simp only [Act.put, List.setIfInBounds_toArray, List.set_cons_zero, List.set_cons_succ]
        refine wpAnyH_take (i := 19) (v := ?_) (by first | (simp only [List.getElem?_toArray, List.getElem?_cons_succ, List.getElem?_cons_zero]; rfl) | rfl) (by kernel_rfl) (by kernel_rfl) (by kernel_rfl) (fun _ _ _ h => h) (Or.inl ⟨by rfl, ?_⟩) (by assumption) ?_
        rotate_left 1
        · (intro w' hSw; (try dsimp only at hSw); go_simp; (try with_reducible rfl))
        try simp only [Act.put, List.setIfInBounds_toArray, List.set_cons_zero, List.set_cons_succ]
        refine wpAnyH_take (i := 20) (v := ?_) (by first | (simp only [List.getElem?_toArray, List.getElem?_cons_succ, List.getElem?_cons_zero]; rfl) | rfl) (by kernel_rfl) (by kernel_rfl) (by kernel_rfl) (fun _ _ _ h => h) (Or.inl ⟨by rfl, ?_⟩) (by assumption) ?_
        rotate_left 1
        · (intro w' hSw; (try dsimp only at hSw); go_simp; (try with_reducible rfl))
        try simp only [Act.put, List.setIfInBounds_toArray, List.set_cons_zero, List.set_cons_succ]
        refine wpAnyH_ready (rs := [21]) (by kernel_rfl) (by simp) ?_
        refine AllReadyH.cons (by first | (simp only [List.getElem?_toArray, List.getElem?_cons_succ, List.getElem?_cons_zero]; rfl) | rfl) (fun K hK => ?_) AllReadyH.nil
        go_simp
        refine (HOa.out W0 (HAz.out.trans (HVz.out.mono HAz.out.size))).mono ?_
        rintro e Wn ⟨v9, he, hma, hb, -⟩
        subst he
        dsimp only
        replace HVz := Lib.hid (HVz.out.trans (hb.mono HVz.out.size))
        have HMo := Lib.hid (show MeAt Wn (Lo Wn.heap.size) v9 a1 from hma.keep fun k hk => ⟨rfl, (hk.resolve_left (Nat.not_lt_zero k)).2⟩)
        clear hb hma
        obtain ⟨W0, rfl⟩ : ∃ W, W = Wn := ⟨Wn, rfl⟩
        refine hK.out _ _ (HSz.out _ HVz.out) (fun hHeld => ?_)
        clear hK K
        try simp only [Act.put, List.setIfInBounds_toArray, List.set_cons_zero, List.set_cons_succ]
        refine wpAnyH_ready (rs := [22]) (by kernel_rfl) (by simp) ?_
        refine AllReadyH.cons (by first | (simp only [List.getElem?_toArray, List.getElem?_cons_succ, List.getElem?_cons_zero]; rfl) | rfl) (fun K hK => ?_) AllReadyH.nil
        go_simp
        refine (sameM_any xm a1 _ _ W0 (HXm.out W0 HVz.out) HMo.out).mono ?_
        rintro e Wn ⟨he, hb⟩
        rw [hxs] at he
        subst he
        dsimp only
        replace HVz := Lib.hid (HVz.out.trans (hb.mono HVz.out.size))
        clear hb HMo
        obtain ⟨W0, rfl⟩ : ∃ W, W = Wn := ⟨Wn, rfl⟩
        refine hK.out _ _ (HSz.out _ HVz.out) (fun hHeld => ?_)
        clear hK K
        try simp only [Act.put, List.setIfInBounds_toArray, List.set_cons_zero, List.set_cons_succ]
        refine wpAnyH_take (i := 23) (v := ?_) (by first | (simp only [List.getElem?_toArray, List.getElem?_cons_succ, List.getElem?_cons_zero]; rfl) | rfl) (by kernel_rfl) (by kernel_rfl) (by kernel_rfl) (fun _ _ _ h => h) (Or.inl ⟨by rfl, ?_⟩) (by assumption) ?_
        rotate_left 1
        · (intro w' hSw; (try dsimp only at hSw); go_simp; (try with_reducible rfl))
        try simp only [Act.put, List.setIfInBounds_toArray, List.set_cons_zero, List.set_cons_succ]
        refine wpAnyH_take (i := 24) (v := ?_) (by first | (simp only [List.getElem?_toArray, List.getElem?_cons_succ, List.getElem?_cons_zero]; rfl) | rfl) (by kernel_rfl) (by kernel_rfl) (by kernel_rfl) (fun _ _ _ h => h) (Or.inl ⟨by rfl, ?_⟩) (by assumption) ?_
        rotate_left 1
        · (intro w' hSw; (try dsimp only at hSw); go_simp; (try with_reducible rfl))
        try simp only [Act.put, List.setIfInBounds_toArray, List.set_cons_zero, List.set_cons_succ]
        refine wpAnyH_done (by kernel_rfl) ?_ _
        refine HKK.out _ _ ?_
        go_wp2_with fail
        go_ret
        exact ⟨rfl, by rw [HT.out]; exact HBl.out.trans ((HAz.out.mono hTa).trans (HVz.out.mono (by have := HAz.out.size; omega)))⟩
      have hq0 : ¬ (0 : Int) < (a1.bd.length : Int) := by omega
      clear hb0
      go_upto_region 15 with (go_at_call 21; refine hwk.mono ?_; rintro e W7 ⟨rfl, hw7, hq7⟩; have HW7 := Lib.hid hw7; have HQ7 := Lib.hid hq7; have fX7 := cells6T ((hq7.block X lX (by have := lt_of_blk HX.out; have := HV2.out.size; omega) (by have := lt_of_blk HX.out; have := HV2.out.size; omega)).trans HXw.out); have lX7 := Nat.lt_of_lt_of_le lX hq7.size; clear hwk hw7 hq7 fX lX)
      obtain ⟨n9, hn9⟩ : ∃ n, min (cntL a1.bd) (kk + 1) = n := ⟨_, rfl⟩
      have hXl := lt_of_blk HX.out
      have hV2s := HV2.out.size
      have HP0 := Lib.hid HW7.out.l
      have HP1 := Lib.hid HW7.out.n
      rw [hn9] at HP1
      have HP2 := Lib.hid HW7.out.s
      have HP3 := Lib.hid HW7.out.st
      have HXz := Lib.hid ((HQ7.out.block X (lt_of_blk HXw.out) (by omega) (by omega)).trans HXw.out)
      have hTX : T < W6.heap.size := by have := HB4.out.size; have := HV6.out.size; omega
      have HTz := Lib.hid ((HQ7.out.block T hTX (by have := HB4.out.size; omega) (by have := HB4.out.size; omega)).trans (((HB4.out.trans (HV6.out.mono HB4.out.size)).block T (by omega)).trans H1.out.2))
      have HAz := Lib.hid (show Below wa.heap.size wa W7 from (HB4.out.trans (HV6.out.mono HB4.out.size)).trans (HQ7.out.below (Nat.le_trans HB4.out.size HV6.out.size) (by have := HB4.out.size; omega)))
      have HXm := Lib.hid (fun (w' : World) (h : Below W7.heap.size W7 w') => show MeAt w' (Lo w'.heap.size) (.agg #[.string (mkB a1.nm), .slice A1 a1.ps.length n1, .slice A2 a1.ts.length n2, .int .i64 a1.pr, .slice A4 a1.bd.length c4, .int .i64 a1.at_]) a1 from HMa.out.1.keep fun k hk => ⟨(h.block k (by have := hk.2; have := HMa.out.2; have := HV6.out.size; have := HQ7.out.size; omega)).trans ((HQ7.out.block k (by have := hk.2; have := HMa.out.2; have := HV6.out.size; omega) (by have := hk.2; have := HMa.out.2; omega) (by have := hk.2; have := HMa.out.2; omega)).trans (HV6.out.block k (Nat.lt_of_lt_of_le hk.2 HMa.out.2))), by have := hk.2; have := HMa.out.2; have := HV6.out.size; have := HQ7.out.size; have := h.size; show k < w'.heap.size; omega⟩)
      have hxs : sameM a1 a1 = true := sameM_refl _
      have hf : decide (cntL a1.bd ≤ kk) = ((((kk) : Nat) : Int) == (L.length : Int)) := by
        rw [Bool.eq_iff_iff]
        simp only [decide_eq_true_eq, beq_iff_eq]
        have hle9 : kk ≤ L.length := hkk
        have h9 := hLl
        constructor <;> intro h8 <;> first | trivial | omega
      have hmn : min ((((kk) : Nat) : Int) + 1) (L.length : Int) = (n9 : Int) := by rw [← hn9, hLl]; omega
      have hTa : T ≤ wa.heap.size := by omega
      have hwr : IntKind.i64.wrap ((((kk) : Nat) : Int) + 1) = (((kk) : Nat) : Int) + 1 := by
        have hle9 : kk ≤ L.length := hkk
        have h9 := hLl
        rw [IntKind.wrap_i64]; omega
      have HLl := Lib.hid hLl
      clear hLl
      go_upto_region 15 with fail
      rename_i KK hKK
      have HKK := Lib.hid hKK
      clear hKK
      have HSz : Hid (∀ w' : World, Below W7.heap.size W7 w' → (w'.cell? ⟨P + 1 + 1, 0, none⟩ = some (.bool true) ∧ w'.cell? ⟨P + 1 + 1 + 1, 0, none⟩ = some (.int .i64 ((kk : Nat) : Int)) ∧ w'.cell? ⟨P, 0, none⟩ = some (.slice AL L.length cL) ∧ w'.cell? ⟨P + 1, 0, none⟩ = some (.int .i64 (n9 : Int)) ∧ w'.cell? ⟨X, 0, none⟩ = some (.string (mkB a1.nm)) ∧ w'.cell? ⟨X, 1, none⟩ = some (.slice A1 a1.ps.length n1) ∧ w'.cell? ⟨X, 2, none⟩ = some (.slice A2 a1.ts.length n2) ∧ w'.cell? ⟨X, 3, none⟩ = some (.int .i64 a1.pr) ∧ w'.cell? ⟨X, 4, none⟩ = some (.slice A4 a1.bd.length c4) ∧ w'.cell? ⟨X, 5, none⟩ = some (.int .i64 a1.at_) ∧ w'.cell? ⟨T, 0, none⟩ = some (.string (mkB a1.nm)) ∧ w'.cell? ⟨T, 1, none⟩ = some (.slice Aq a1.ps.length cq) ∧ w'.cell? ⟨T, 2, none⟩ = some (.slice Ar a1.ts.length cr) ∧ w'.cell? ⟨T, 3, none⟩ = some (.int .i64 a1.pr) ∧ w'.cell? ⟨T, 4, none⟩ = some (.slice As a1.bd.length cs) ∧ w'.cell? ⟨T, 5, none⟩ = some (.int .i64 a1.at_))) := Lib.hid (fun w' h => by
        obtain ⟨b2, _⟩ := cells1T ((h.block _ (lt_of_blk HP2.out)).trans HP2.out)
        obtain ⟨b3, _⟩ := cells1T ((h.block _ (lt_of_blk HP3.out)).trans HP3.out)
        obtain ⟨b0, _⟩ := cells1T ((h.block _ (lt_of_blk HP0.out)).trans HP0.out)
        obtain ⟨b1, _⟩ := cells1T ((h.block _ (lt_of_blk HP1.out)).trans HP1.out)
        obtain ⟨e0, e1, e2, e3, e4, e5, _⟩ := cells6T ((h.block X (lt_of_blk HXz.out)).trans HXz.out)
        obtain ⟨g0, g1, g2, g3, g4, g5, _⟩ := cells6T ((h.block T (lt_of_blk HTz.out)).trans HTz.out)
        exact ⟨b2, b3, b0, b1, e0, e1, e2, e3, e4, e5, g0, g1, g2, g3, g4, g5⟩)
      refine wp_region_noPanic ?_
      refine wp_region_held_drew (S := (fun w' : World => w'.cell? ⟨P + 1 + 1, 0, none⟩ = some (.bool true) ∧ w'.cell? ⟨P + 1 + 1 + 1, 0, none⟩ = some (.int .i64 ((kk : Nat) : Int)) ∧ w'.cell? ⟨P, 0, none⟩ = some (.slice AL L.length cL) ∧ w'.cell? ⟨P + 1, 0, none⟩ = some (.int .i64 (n9 : Int)) ∧ w'.cell? ⟨X, 0, none⟩ = some (.string (mkB a1.nm)) ∧ w'.cell? ⟨X, 1, none⟩ = some (.slice A1 a1.ps.length n1) ∧ w'.cell? ⟨X, 2, none⟩ = some (.slice A2 a1.ts.length n2) ∧ w'.cell? ⟨X, 3, none⟩ = some (.int .i64 a1.pr) ∧ w'.cell? ⟨X, 4, none⟩ = some (.slice A4 a1.bd.length c4) ∧ w'.cell? ⟨X, 5, none⟩ = some (.int .i64 a1.at_) ∧ w'.cell? ⟨T, 0, none⟩ = some (.string (mkB a1.nm)) ∧ w'.cell? ⟨T, 1, none⟩ = some (.slice Aq a1.ps.length cq) ∧ w'.cell? ⟨T, 2, none⟩ = some (.slice Ar a1.ts.length cr) ∧ w'.cell? ⟨T, 3, none⟩ = some (.int .i64 a1.pr) ∧ w'.cell? ⟨T, 4, none⟩ = some (.slice As a1.bd.length cs) ∧ w'.cell? ⟨T, 5, none⟩ = some (.int .i64 a1.at_))) (by kernel_rfl) (HSz.out _ (Below.refl _ _).drew) (fun hHeld => ?_)
      obtain ⟨W0, hW0⟩ : ∃ W0, W7.drew = W0 := ⟨_, rfl⟩
      have HVz := Lib.hid (show Below W7.heap.size W7 W0 from by rw [← hW0]; exact (Below.refl _ _).drew)
      rw [hW0] at hHeld ⊢
      clear hW0
      refine wpAnyH_take (i := 0) (v := ?_) (by first | (simp only [List.getElem?_toArray, List.getElem?_cons_zero]; rfl) | rfl) (by kernel_rfl) (by kernel_rfl) (by kernel_rfl) (fun _ _ _ h => h) (Or.inl ⟨by rfl, ?_⟩) (by assumption) ?_
      rotate_left 1
      · (intro w' hSw; (try dsimp only at hSw); go_simp; (try with_reducible rfl))
      try simp only [Act.put, List.setIfInBounds_toArray, List.set_cons_zero, List.set_cons_succ]
      refine wpAnyH_take (i := 1) (v := ?_) (by first | (simp only [List.getElem?_toArray, List.getElem?_cons_succ, List.getElem?_cons_zero]; rfl) | rfl) (by kernel_rfl) (by kernel_rfl) (by kernel_rfl) (fun _ _ _ h => h) (Or.inl ⟨by rfl, ?_⟩) (by assumption) ?_
      rotate_left 1
      · (intro w' hSw; (try dsimp only at hSw); go_simp; (try with_reducible rfl))
      try simp only [Act.put, List.setIfInBounds_toArray, List.set_cons_zero, List.set_cons_succ]
      refine wpAnyH_take (i := 2) (v := ?_) (by first | (simp only [List.getElem?_toArray, List.getElem?_cons_succ, List.getElem?_cons_zero]; rfl) | rfl) (by kernel_rfl) (by kernel_rfl) (by kernel_rfl) (fun _ _ _ h => h) (Or.inl ⟨by rfl, ?_⟩) (by assumption) ?_
      rotate_left 1
      · (intro w' hSw; (try dsimp only at hSw); go_simp; (try with_reducible rfl))
      try simp only [Act.put, List.setIfInBounds_toArray, List.set_cons_zero, List.set_cons_succ]
      refine wpAnyH_take (i := 3) (v := ?_) (by first | (simp only [List.getElem?_toArray, List.getElem?_cons_succ, List.getElem?_cons_zero]; rfl) | rfl) (by kernel_rfl) (by kernel_rfl) (by kernel_rfl) (fun _ _ _ h => h) (Or.inl ⟨by rfl, ?_⟩) (by assumption) ?_
      rotate_left 1
      · (intro w' hSw; (try dsimp only at hSw); go_simp; (try with_reducible rfl))
      try simp only [Act.put, List.setIfInBounds_toArray, List.set_cons_zero, List.set_cons_succ]
      refine wpAnyH_take (i := 4) (v := ?_) (by first | (simp only [List.getElem?_toArray, List.getElem?_cons_succ, List.getElem?_cons_zero]; rfl) | rfl) (by kernel_rfl) (by kernel_rfl) (by kernel_rfl) (fun _ _ _ h => h) (Or.inl ⟨by rfl, ?_⟩) (by assumption) ?_
      rotate_left 1
      · (intro w' hSw; (try dsimp only at hSw); go_simp; (try with_reducible rfl))
      try simp only [Act.put, List.setIfInBounds_toArray, List.set_cons_zero, List.set_cons_succ]
      refine wpAnyH_take (i := 5) (v := ?_) (by first | (simp only [List.getElem?_toArray, List.getElem?_cons_succ, List.getElem?_cons_zero]; rfl) | rfl) (by kernel_rfl) (by kernel_rfl) (by kernel_rfl) (fun _ _ _ h => h) (Or.inl ⟨by rfl, ?_⟩) (by assumption) ?_
      rotate_left 1
      · (intro w' hSw; (try dsimp only at hSw); go_simp; (try with_reducible rfl))
      try simp only [Act.put, List.setIfInBounds_toArray, List.set_cons_zero, List.set_cons_succ]
      refine wpAnyH_take (i := 6) (v := ?_) (by first | (simp only [List.getElem?_toArray, List.getElem?_cons_succ, List.getElem?_cons_zero]; rfl) | rfl) (by kernel_rfl) (by kernel_rfl) (by kernel_rfl) (fun _ _ _ h => h) (Or.inl ⟨by rfl, ?_⟩) (by assumption) ?_
      rotate_left 1
      · (intro w' hSw; (try dsimp only at hSw); go_simp; (try with_reducible rfl))
      try simp only [Act.put, List.setIfInBounds_toArray, List.set_cons_zero, List.set_cons_succ]
      refine wpAnyH_take (i := 7) (v := ?_) (by first | (simp only [List.getElem?_toArray, List.getElem?_cons_succ, List.getElem?_cons_zero]; rfl) | rfl) (by kernel_rfl) (by kernel_rfl) (by kernel_rfl) (fun _ _ _ h => h) (Or.inl ⟨by rfl, ?_⟩) (by assumption) ?_
      rotate_left 1
      · (intro w' hSw; (try dsimp only at hSw); go_simp; (try with_reducible rfl))
      try simp only [Act.put, List.setIfInBounds_toArray, List.set_cons_zero, List.set_cons_succ]
      refine wpAnyH_take (i := 8) (v := ?_) (by first | (simp only [List.getElem?_toArray, List.getElem?_cons_succ, List.getElem?_cons_zero]; rfl) | rfl) (by kernel_rfl) (by kernel_rfl) (by kernel_rfl) (fun _ _ _ h => h) (Or.inl ⟨by rfl, ?_⟩) (by assumption) ?_
      rotate_left 1
      · (intro w' hSw; (try dsimp only at hSw); go_simp; (try with_reducible rfl))
      try simp only [Act.put, List.setIfInBounds_toArray, List.set_cons_zero, List.set_cons_succ]
      refine wpAnyH_take (i := 9) (v := ?_) (by first | (simp only [List.getElem?_toArray, List.getElem?_cons_succ, List.getElem?_cons_zero]; rfl) | rfl) (by kernel_rfl) (by kernel_rfl) (by kernel_rfl) (fun _ _ _ h => h) (Or.inl ⟨by rfl, ?_⟩) (by assumption) ?_
      rotate_left 1
      · (intro w' hSw; (try dsimp only at hSw); go_simp; (try with_reducible rfl))
      try simp only [Act.put, List.setIfInBounds_toArray, List.set_cons_zero, List.set_cons_succ]
      refine wpAnyH_take (i := 10) (v := ?_) (by first | (simp only [List.getElem?_toArray, List.getElem?_cons_succ, List.getElem?_cons_zero]; rfl) | rfl) (by kernel_rfl) (by kernel_rfl) (by kernel_rfl) (fun _ _ _ h => h) (Or.inl ⟨by rfl, ?_⟩) (by assumption) ?_
      rotate_left 1
      · (intro w' hSw; (try dsimp only at hSw); go_simp; (try with_reducible rfl))
      try simp only [Act.put, List.setIfInBounds_toArray, List.set_cons_zero, List.set_cons_succ]
      refine wpAnyH_take (i := 11) (v := ?_) (by first | (simp only [List.getElem?_toArray, List.getElem?_cons_succ, List.getElem?_cons_zero]; rfl) | rfl) (by kernel_rfl) (by kernel_rfl) (by kernel_rfl) (fun _ _ _ h => h) (Or.inl ⟨by rfl, ?_⟩) (by assumption) ?_
      rotate_left 1
      · (intro w' hSw; (try dsimp only at hSw); go_simp; (try with_reducible rfl))
      try simp only [Act.put, List.setIfInBounds_toArray, List.set_cons_zero, List.set_cons_succ]
      refine wpAnyH_take (i := 12) (v := ?_) (by first | (simp only [List.getElem?_toArray, List.getElem?_cons_succ, List.getElem?_cons_zero]; rfl) | rfl) (by kernel_rfl) (by kernel_rfl) (by kernel_rfl) (fun _ _ _ h => h) (Or.inl ⟨by rfl, ?_⟩) (by assumption) ?_
      rotate_left 1
      · (intro w' hSw; (try dsimp only at hSw); go_simp; (try with_reducible rfl))
      try simp only [Act.put, List.setIfInBounds_toArray, List.set_cons_zero, List.set_cons_succ]
      refine wpAnyH_take (i := 13) (v := ?_) (by first | (simp only [List.getElem?_toArray, List.getElem?_cons_succ, List.getElem?_cons_zero]; rfl) | rfl) (by kernel_rfl) (by kernel_rfl) (by kernel_rfl) (fun _ _ _ h => h) (Or.inl ⟨by rfl, ?_⟩) (by assumption) ?_
      rotate_left 1
      · (intro w' hSw; (try dsimp only at hSw); go_simp; (try with_reducible rfl))
      try simp only [Act.put, List.setIfInBounds_toArray, List.set_cons_zero, List.set_cons_succ]
      refine wpAnyH_take (i := 14) (v := ?_) (by first | (simp only [List.getElem?_toArray, List.getElem?_cons_succ, List.getElem?_cons_zero]; rfl) | rfl) (by kernel_rfl) (by kernel_rfl) (by kernel_rfl) (fun _ _ _ h => h) (Or.inl ⟨by rfl, ?_⟩) (by assumption) ?_
      rotate_left 1
      · (intro w' hSw; (try dsimp only at hSw); go_simp; (try with_reducible rfl))
      try simp only [Act.put, List.setIfInBounds_toArray, List.set_cons_zero, List.set_cons_succ]
      refine wpAnyH_take (i := 15) (v := ?_) (by first | (simp only [List.getElem?_toArray, List.getElem?_cons_succ, List.getElem?_cons_zero]; rfl) | rfl) (by kernel_rfl) (by kernel_rfl) (by kernel_rfl) (fun _ _ _ h => h) (Or.inl ⟨by rfl, ?_⟩) (by assumption) ?_
      rotate_left 1
      · (intro w' hSw; (try dsimp only at hSw); go_simp; (try with_reducible rfl))
      try simp only [Act.put, List.setIfInBounds_toArray, List.set_cons_zero, List.set_cons_succ]
      refine wpAnyH_take (i := 16) (v := ?_) (by first | (simp only [List.getElem?_toArray, List.getElem?_cons_succ, List.getElem?_cons_zero]; rfl) | rfl) (by kernel_rfl) (by kernel_rfl) (by kernel_rfl) (fun _ _ _ h => h) (Or.inl ⟨by rfl, ?_⟩) (by assumption) ?_
      rotate_left 1
      · (intro w' hSw; (try dsimp only at hSw); go_simp; (try with_reducible rfl))
      try simp only [Act.put, List.setIfInBounds_toArray, List.set_cons_zero, List.set_cons_succ]
      refine wpAnyH_take (i := 17) (v := ?_) (by first | (simp only [List.getElem?_toArray, List.getElem?_cons_succ, List.getElem?_cons_zero]; rfl) | rfl) (by kernel_rfl) (by kernel_rfl) (by kernel_rfl) (fun _ _ _ h => h) (Or.inl ⟨by rfl, ?_⟩) (by assumption) ?_
      rotate_left 1
      · (intro w' hSw; (try dsimp only at hSw); go_simp; (try with_reducible rfl))
      try simp only [Act.put, List.setIfInBounds_toArray, List.set_cons_zero, List.set_cons_succ]
      refine wpAnyH_take (i := 18) (v := ?_) (by first | (simp only [List.getElem?_toArray, List.getElem?_cons_succ, List.getElem?_cons_zero]; rfl) | rfl) (by kernel_rfl) (by kernel_rfl) (by kernel_rfl) (fun _ _ _ h => h) (Or.inl ⟨by rfl, ?_⟩) (by assumption) ?_
      rotate_left 1
      · (intro w' hSw; (try dsimp only at hSw); go_simp; (try with_reducible rfl))
      try simp only [Act.put, List.setIfInBounds_toArray, List.set_cons_zero, List.set_cons_succ]
      refine wpAnyH_take (i := 19) (v := ?_) (by first | (simp only [List.getElem?_toArray, List.getElem?_cons_succ, List.getElem?_cons_zero]; rfl) | rfl) (by kernel_rfl) (by kernel_rfl) (by kernel_rfl) (fun _ _ _ h => h) (Or.inl ⟨by rfl, ?_⟩) (by assumption) ?_
      rotate_left 1
      · (intro w' hSw; (try dsimp only at hSw); go_simp; (try with_reducible rfl))
      try simp only [Act.put, List.setIfInBounds_toArray, List.set_cons_zero, List.set_cons_succ]
      refine wpAnyH_take (i := 20) (v := ?_) (by first | (simp only [List.getElem?_toArray, List.getElem?_cons_succ, List.getElem?_cons_zero]; rfl) | rfl) (by kernel_rfl) (by kernel_rfl) (by kernel_rfl) (fun _ _ _ h => h) (Or.inl ⟨by rfl, ?_⟩) (by assumption) ?_
      rotate_left 1
      · (intro w' hSw; (try dsimp only at hSw); go_simp; (try with_reducible rfl))
      try simp only [Act.put, List.setIfInBounds_toArray, List.set_cons_zero, List.set_cons_succ]
      refine wpAnyH_ready (rs := [21]) (by kernel_rfl) (by simp) ?_
      refine AllReadyH.cons (by first | (simp only [List.getElem?_toArray, List.getElem?_cons_succ, List.getElem?_cons_zero]; rfl) | rfl) (fun K hK => ?_) AllReadyH.nil
      go_simp
      refine (HOa.out W0 (HAz.out.trans (HVz.out.mono HAz.out.size))).mono ?_
      rintro e Wn ⟨v9, he, hma, hb, -⟩
      subst he
      dsimp only
      replace HVz := Lib.hid (HVz.out.trans (hb.mono HVz.out.size))
      have HMo := Lib.hid (show MeAt Wn (Lo Wn.heap.size) v9 a1 from hma.keep fun k hk => ⟨rfl, (hk.resolve_left (Nat.not_lt_zero k)).2⟩)
      clear hb hma
      obtain ⟨W0, rfl⟩ : ∃ W, W = Wn := ⟨Wn, rfl⟩
      refine hK.out _ _ (HSz.out _ HVz.out) (fun hHeld => ?_)
      clear hK K
      try simp only [Act.put, List.setIfInBounds_toArray, List.set_cons_zero, List.set_cons_succ]
      refine wpAnyH_ready (rs := [22]) (by kernel_rfl) (by simp) ?_
      refine AllReadyH.cons (by first | (simp only [List.getElem?_toArray, List.getElem?_cons_succ, List.getElem?_cons_zero]; rfl) | rfl) (fun K hK => ?_) AllReadyH.nil
      go_simp
      refine (sameM_any a1 a1 _ _ W0 (HXm.out W0 HVz.out) HMo.out).mono ?_
      rintro e Wn ⟨he, hb⟩
      rw [hxs] at he
      subst he
      dsimp only
      replace HVz := Lib.hid (HVz.out.trans (hb.mono HVz.out.size))
      clear hb HMo
      obtain ⟨W0, rfl⟩ : ∃ W, W = Wn := ⟨Wn, rfl⟩
      refine hK.out _ _ (HSz.out _ HVz.out) (fun hHeld => ?_)
      clear hK K
      try simp only [Act.put, List.setIfInBounds_toArray, List.set_cons_zero, List.set_cons_succ]
      refine wpAnyH_take (i := 23) (v := ?_) (by first | (simp only [List.getElem?_toArray, List.getElem?_cons_succ, List.getElem?_cons_zero]; rfl) | rfl) (by kernel_rfl) (by kernel_rfl) (by kernel_rfl) (fun _ _ _ h => h) (Or.inl ⟨by rfl, ?_⟩) (by assumption) ?_
      rotate_left 1
      · (intro w' hSw; (try dsimp only at hSw); go_simp; (try with_reducible rfl))
      try simp only [Act.put, List.setIfInBounds_toArray, List.set_cons_zero, List.set_cons_succ]
      refine wpAnyH_take (i := 24) (v := ?_) (by first | (simp only [List.getElem?_toArray, List.getElem?_cons_succ, List.getElem?_cons_zero]; rfl) | rfl) (by kernel_rfl) (by kernel_rfl) (by kernel_rfl) (fun _ _ _ h => h) (Or.inl ⟨by rfl, ?_⟩) (by assumption) ?_
      rotate_left 1
      · (intro w' hSw; (try dsimp only at hSw); go_simp; (try with_reducible rfl))
      try simp only [Act.put, List.setIfInBounds_toArray, List.set_cons_zero, List.set_cons_succ]
      refine wpAnyH_done (by kernel_rfl) ?_ _
      refine HKK.out _ _ ?_
      go_wp2_with fail
      go_ret
      exact ⟨rfl, by rw [HT.out]; exact HBl.out.trans ((HAz.out.mono hTa).trans (HVz.out.mono (by have := HAz.out.size; omega)))⟩
end Go.Proofs.YtfcceojfcmgmlaaGreatDoor.Fl
