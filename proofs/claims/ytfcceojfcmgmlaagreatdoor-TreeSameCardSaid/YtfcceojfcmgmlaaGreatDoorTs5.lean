/-
  The program's method out of the document's: Own.
-/
import Derived.Test.YtfcceojfcmgmlaaGreatDoorTs4
import Derived.BigRegion
import Derived.Laws.OwnMore
import Derived.Deep.Strs
import Derived.ChangeArms
namespace Go.Proofs.YtfcceojfcmgmlaaGreatDoor.Fl
open Go.RowKit Go.Shelf

theorem sr_of_row2 {w : World} {P : Nat → Prop} {base c : Nat} {A : Option Addr} {l : List (List UInt8)} (h : OwnS w base (.slice A l.length c) l) (hP : ∀ k, (Value.slice A l.length c).ownBlock = some k → base ≤ k → k < w.heap.size → P k) : SrAt w P A l ∧ l.length ≤ c ∧ c ≤ 9223372036854775807 ∧ (A = none → l = []) := by
  have hlo := World.ownsRow.lt h
  obtain ⟨z1, z2, z3, z4⟩ := sr_of_row (P := fun k => (Value.slice A l.length c).ownBlock = some k → P k) h (fun k h1 h2 ho => hP k ho h1 h2)
  refine ⟨?_, z2, z3, z4⟩
  rcases z1 with e | ⟨b, off, rfl, hb, hc⟩
  · exact .inl e
  · exact .inr ⟨b, off, rfl, hb rfl, hc⟩
theorem OwnS.keepB {w w' : World} {base : Nat} {v : Value} {xs : List (List UInt8)} (h : OwnS w base v xs) (hk : ∀ k, v.ownBlock = some k → w'.heap[k]? = w.heap[k]?) : OwnS w' base v xs :=
  ⟨h.1, h.2.elim .inl fun ⟨g, cap, cur, hv, hbg, hg, r⟩ => .inr ⟨g, cap, cur, hv, hbg, (hk g (by rw [hv]; rfl)).trans hg, r⟩⟩
theorem OwnP.keepB {w w' : World} {base base' : Nat} {v : Value} {xs : List NE} (h : OwnP w base' v xs) (hb : base ≤ base') (hk : ∀ k, base' ≤ k → k < w.heap.size → w'.heap[k]? = w.heap[k]?) : OwnP w' base v xs :=
  ⟨h.1, h.2.elim .inl fun ⟨g, cap, cur, hv, hbg, hg, r⟩ => .inr ⟨g, cap, cur, hv, Nat.le_trans hb hbg, (hk g hbg (lt_of_blk hg)).trans hg, r⟩⟩
theorem own_result {W : World} {C : Nat} {v0 v1 v2 v3 v4 v5 : Value} {a : Array Value} (h : W.heap[C]? = some (.cells #[v0, v1, v2, v3, v4, v5] 30 (0, 0))) (h2 : a[2]?.getD undef = .pointer (some ⟨C, 0, none⟩)) :
    (results Tryz.f9 a).run Tryz.prog W = .ok (.agg #[v0, v1, v2, v3, v4, v5]) W := by
  obtain ⟨c0, c1, c2, c3, c4, c5, _⟩ := cells6T h
  simp [results, Tryz.results9, go_sem, h2, c0, c1, c2, c3, c4, c5]
set_option maxRecDepth 100000 in
set_option maxHeartbeats 8000000 in
theorem own_any (m : Me) (v : Value) (B : Nat) (w : World) (h : MeAt w (Lo B) v m) (hB : B ≤ w.heap.size) (hps : m.ps.length ≤ 100000000) (hts : m.ts.length ≤ 100000000) (hbd : cntL m.bd ≤ 10000000) (hns : ∀ y ∈ allL m.bd, y.ns.length ≤ 100000000) :
    Calls Tryz.prog 9 #[v] w fun e w' => ∃ v', e = .returned v' ∧ MeAt w' (Nw 0 w.heap.size w'.heap.size) v' m ∧ Below w.heap.size w w' ∧
      ∃ (s1 s2 : Value) (A4 : Option Addr) (c4 : Nat) (es : List NE), v' = .agg #[.string (mkB m.nm), s1, s2, .int .i64 m.pr, .slice A4 m.bd.length c4, .int .i64 m.at_] ∧ es.map (fun x => x.1) = m.bd ∧ OwnP w' w.heap.size (.slice A4 m.bd.length c4) es ∧ ∀ x ∈ es, Ent w' (Nx 0 w.heap.size w'.heap.size (.slice A4 m.bd.length c4)) x := by
  obtain ⟨Ap, cp, At, ct, Ab, cb, rfl, h1, h2, h3, h4, h5, h6, s1, s2, s3, n1, n2, n3⟩ := (h.below (Below.refl _ _) hB).ex
  clear h
  have HS := Lib.hid (And.intro s1 s2)
  have HAP := Lib.hid (show Ap = none → m.ps.length = 0 from fun e => by rw [n1 e]; rfl)
  have HAT := Lib.hid (show At = none → m.ts.length = 0 from fun e => by rw [n2 e]; rfl)
  obtain ⟨T, hT⟩ : ∃ T, w.heap.size = T := ⟨_, rfl⟩
  obtain ⟨W1, hW1⟩ : ∃ W, (w.alloc (.cells #[.string (mkB m.nm), .slice Ap m.ps.length cp, .slice At m.ts.length ct, .int .i64 m.pr, .slice Ab m.bd.length cb, .int .i64 m.at_] 25)).alloc (.cells #[.string ⟨#[]⟩, .slice none 0 0, .slice none 0 0, .int .i64 0, .slice none 0 0, .int .i64 0] 30) = W := ⟨_, rfl⟩
  obtain ⟨q1, q2, hb⟩ := boxes2T w _ _ W1 hW1
  rw [hT] at q1 q2
  have HRC : Hid (∀ w', Below W1.heap.size W1 w' → Calls Tryz.prog 24 #[.slice Ab m.bd.length cb] w' (NodT w' m.bd)) :=
    Lib.hid (fun w' hb' => nodes_any (cntL m.bd) m.bd Ab cb w.heap.size w' (Nat.le_refl _) hbd hns (s3.below (hb.trans (hb'.mono hb.size)) (Nat.le_refl _)) (Nat.le_trans hb.size hb'.size) h5 h6)
  go_enter Tryz.func9, Tryz.ntmps9
  go_upto_region 1 with fail
  try simp only [hW1]
  try simp only [hT]
  rename_i KK hKK
  have HKK := Lib.hid hKK
  clear hKK
  have HTT : Hid (w.heap.size ≤ T + 1) := Lib.hid (by omega)
  have HT := Lib.hid hT
  have HQ := Lib.hid (And.intro q1 q2)
  have HB1 := Lib.hid hb
  have lT := lt_of_blk q1
  have lR := lt_of_blk q2
  clear hW1 hT hb s1 s2 s3 n1 n2 n3 hns
  have f1 := cells6T q1
  have hS : (fun w' : World => w'.cell? ⟨T, 0, none⟩ = some (.string (mkB m.nm)) ∧ w'.cell? ⟨T, 1, none⟩ = some (.slice Ap m.ps.length cp) ∧ w'.cell? ⟨T, 2, none⟩ = some (.slice At m.ts.length ct) ∧ w'.cell? ⟨T, 3, none⟩ = some (.int .i64 m.pr) ∧ w'.cell? ⟨T, 4, none⟩ = some (.slice Ab m.bd.length cb) ∧ w'.cell? ⟨T, 5, none⟩ = some (.int .i64 m.at_)) W1.drew := ⟨f1.1, f1.2.1, f1.2.2.1, f1.2.2.2.1, f1.2.2.2.2.1, f1.2.2.2.2.2.1⟩
  refine wp_region_noPanic ?_
  refine wp_region_held_drew (S := (fun w' : World => w'.cell? ⟨T, 0, none⟩ = some (.string (mkB m.nm)) ∧ w'.cell? ⟨T, 1, none⟩ = some (.slice Ap m.ps.length cp) ∧ w'.cell? ⟨T, 2, none⟩ = some (.slice At m.ts.length ct) ∧ w'.cell? ⟨T, 3, none⟩ = some (.int .i64 m.pr) ∧ w'.cell? ⟨T, 4, none⟩ = some (.slice Ab m.bd.length cb) ∧ w'.cell? ⟨T, 5, none⟩ = some (.int .i64 m.at_))) (by kernel_rfl) hS (fun hHeld => ?_)
  clear hS f1 q1 q2
  refine wpAnyH_take (i := 0) (v := ?_) (by first | (simp only [List.getElem?_toArray, List.getElem?_cons_zero]; rfl) | rfl) (by kernel_rfl) (by kernel_rfl) (by kernel_rfl) (fun _ _ _ h => h) (Or.inl ⟨by rfl, ?_⟩) (by assumption) ?_
  rotate_left 1
  · (intro w' hSw; (try dsimp only at hSw); go_simp; (try with_reducible rfl))
  try simp only [Act.put, List.setIfInBounds_toArray, List.set_cons_zero, List.set_cons_succ]
  refine wpAnyH_take (i := 1) (v := ?_) (by first | (simp only [List.getElem?_toArray, List.getElem?_cons_succ, List.getElem?_cons_zero]; rfl) | rfl) (by kernel_rfl) (by kernel_rfl) (by kernel_rfl) (fun _ _ _ h => h) (Or.inl ⟨by rfl, ?_⟩) (by assumption) ?_
  rotate_left 1
  · (intro w' hSw; (try dsimp only at hSw); go_simp; (try with_reducible rfl))
  try simp only [Act.put, List.setIfInBounds_toArray, List.set_cons_zero, List.set_cons_succ]
  refine wpAnyH_take (i := 3) (v := ?_) (by first | (simp only [List.getElem?_toArray, List.getElem?_cons_succ, List.getElem?_cons_zero]; rfl) | rfl) (by kernel_rfl) (by kernel_rfl) (by kernel_rfl) (fun _ _ _ h => h) (Or.inl ⟨by rfl, ?_⟩) (by assumption) ?_
  rotate_left 1
  · (intro w' hSw; (try dsimp only at hSw); go_simp; (try with_reducible rfl))
  try simp only [Act.put, List.setIfInBounds_toArray, List.set_cons_zero, List.set_cons_succ]
  refine wpAnyH_take (i := 4) (v := ?_) (by first | (simp only [List.getElem?_toArray, List.getElem?_cons_succ, List.getElem?_cons_zero]; rfl) | rfl) (by kernel_rfl) (by kernel_rfl) (by kernel_rfl) (fun _ _ _ h => h) (Or.inl ⟨by rfl, ?_⟩) (by assumption) ?_
  rotate_left 1
  · (intro w' hSw; (try dsimp only at hSw); go_simp; (try with_reducible rfl))
  try simp only [Act.put, List.setIfInBounds_toArray, List.set_cons_zero, List.set_cons_succ]
  refine wpAnyH_take (i := 7) (v := ?_) (by first | (simp only [List.getElem?_toArray, List.getElem?_cons_succ, List.getElem?_cons_zero]; rfl) | rfl) (by kernel_rfl) (by kernel_rfl) (by kernel_rfl) (fun _ _ _ h => h) (Or.inl ⟨by rfl, ?_⟩) (by assumption) ?_
  rotate_left 1
  · (intro w' hSw; (try dsimp only at hSw); go_simp; (try with_reducible rfl))
  try simp only [Act.put, List.setIfInBounds_toArray, List.set_cons_zero, List.set_cons_succ]
  refine wpAnyH_take (i := 8) (v := ?_) (by first | (simp only [List.getElem?_toArray, List.getElem?_cons_succ, List.getElem?_cons_zero]; rfl) | rfl) (by kernel_rfl) (by kernel_rfl) (by kernel_rfl) (fun _ _ _ h => h) (Or.inl ⟨by rfl, ?_⟩) (by assumption) ?_
  rotate_left 1
  · (intro w' hSw; (try dsimp only at hSw); go_simp; (try with_reducible rfl))
  try simp only [Act.put, List.setIfInBounds_toArray, List.set_cons_zero, List.set_cons_succ]
  refine wpAnyH_take (i := 10) (v := ?_) (by first | (simp only [List.getElem?_toArray, List.getElem?_cons_succ, List.getElem?_cons_zero]; rfl) | rfl) (by kernel_rfl) (by kernel_rfl) (by kernel_rfl) (fun _ _ _ h => h) (Or.inl ⟨by rfl, ?_⟩) (by assumption) ?_
  rotate_left 1
  · (intro w' hSw; (try dsimp only at hSw); go_simp; (try with_reducible rfl))
  try simp only [Act.put, List.setIfInBounds_toArray, List.set_cons_zero, List.set_cons_succ]
  refine wpAnyH_take (i := 11) (v := ?_) (by first | (simp only [List.getElem?_toArray, List.getElem?_cons_succ, List.getElem?_cons_zero]; rfl) | rfl) (by kernel_rfl) (by kernel_rfl) (by kernel_rfl) (fun _ _ _ h => h) (Or.inl ⟨by rfl, ?_⟩) (by assumption) ?_
  rotate_left 1
  · (intro w' hSw; (try dsimp only at hSw); go_simp; (try with_reducible rfl))
  try simp only [Act.put, List.setIfInBounds_toArray, List.set_cons_zero, List.set_cons_succ]
  refine wpAnyH_take (i := 12) (v := ?_) (by first | (simp only [List.getElem?_toArray, List.getElem?_cons_succ, List.getElem?_cons_zero]; rfl) | rfl) (by kernel_rfl) (by kernel_rfl) (by kernel_rfl) (fun _ _ _ h => h) (Or.inl ⟨by rfl, ?_⟩) (by assumption) ?_
  rotate_left 1
  · (intro w' hSw; (try dsimp only at hSw); go_simp; (try with_reducible rfl))
  try simp only [Act.put, List.setIfInBounds_toArray, List.set_cons_zero, List.set_cons_succ]
  refine wpAnyH_take (i := 13) (v := ?_) (by first | (simp only [List.getElem?_toArray, List.getElem?_cons_succ, List.getElem?_cons_zero]; rfl) | rfl) (by kernel_rfl) (by kernel_rfl) (by kernel_rfl) (fun _ _ _ h => h) (Or.inl ⟨by rfl, ?_⟩) (by assumption) ?_
  rotate_left 1
  · (intro w' hSw; (try dsimp only at hSw); go_simp; (try with_reducible rfl))
  try simp only [Act.put, List.setIfInBounds_toArray, List.set_cons_zero, List.set_cons_succ]
  refine wpAnyH_take (i := 15) (v := ?_) (by first | (simp only [List.getElem?_toArray, List.getElem?_cons_succ, List.getElem?_cons_zero]; rfl) | rfl) (by kernel_rfl) (by kernel_rfl) (by kernel_rfl) (fun _ _ _ h => h) (Or.inl ⟨by rfl, ?_⟩) (by assumption) ?_
  rotate_left 1
  · (intro w' hSw; (try dsimp only at hSw); go_simp; (try with_reducible rfl))
  try simp only [Act.put, List.setIfInBounds_toArray, List.set_cons_zero, List.set_cons_succ]
  refine wpAnyH_take (i := 16) (v := ?_) (by first | (simp only [List.getElem?_toArray, List.getElem?_cons_succ, List.getElem?_cons_zero]; rfl) | rfl) (by kernel_rfl) (by kernel_rfl) (by kernel_rfl) (fun _ _ _ h => h) (Or.inl ⟨by rfl, ?_⟩) (by assumption) ?_
  rotate_left 1
  · (intro w' hSw; (try dsimp only at hSw); go_simp; (try with_reducible rfl))
  try simp only [Act.put, List.setIfInBounds_toArray, List.set_cons_zero, List.set_cons_succ]
  refine wpAnyH_ready (rs := [2, 6]) (by kernel_rfl) (by simp) ?_
  refine AllReadyH.cons (by first | (simp only [List.getElem?_toArray, List.getElem?_cons_succ, List.getElem?_cons_zero]; rfl) | rfl) (fun K hK => ?_) (AllReadyH.cons (by first | (simp only [List.getElem?_toArray, List.getElem?_cons_succ, List.getElem?_cons_zero]; rfl) | rfl) (fun K hK => ?_) AllReadyH.nil)
  · skip
    go_simp
    show K _ (W1.alloc (.cells #[] 9)).drew
    obtain ⟨wv, hwv⟩ : ∃ wv, (W1.alloc (.cells #[] 9)).drew = wv := ⟨_, rfl⟩
    have hbwv : Below W1.heap.size W1 wv := by rw [← hwv]; exact ((Below.refl _ _).alloc (Nat.le_refl _) _).drew
    have hswv : Hid (wv.heap.size = W1.heap.size + 1) := Lib.hid (by rw [← hwv]; exact World.size_alloc _ _)
    obtain ⟨V1, hV1⟩ : ∃ V1, W1.heap.size = V1 := ⟨_, rfl⟩
    have howv : OwnS wv W1.heap.size (.slice (some ⟨V1, 0, none⟩) 0 0) [] := by rw [← hV1, ← hwv]; exact own_void W1 9 1 W1.heap.size (Below.refl W1.heap.size W1).size
    rw [hwv]
    clear hwv
    have hBwv := (Below.refl W1.heap.size W1).trans (hbwv.mono (Below.refl W1.heap.size W1).size)
    try simp only [hV1]
    have HV1 := Lib.hid hV1
    clear hV1
    have hx := (hBwv.block T lT).trans HQ.out.1
    have f := cells6T hx
    refine hK.out _ _ ⟨f.1, f.2.1, f.2.2.1, f.2.2.2.1, f.2.2.2.2.1, f.2.2.2.2.2.1⟩ (fun hHeld => ?_)
    clear hK K f hx
    try simp only [Act.put, List.setIfInBounds_toArray, List.set_cons_zero, List.set_cons_succ]
    refine wpAnyH_ready (rs := [5, 6]) (by kernel_rfl) (by simp) ?_
    refine AllReadyH.cons (by first | (simp only [List.getElem?_toArray, List.getElem?_cons_succ, List.getElem?_cons_zero]; rfl) | rfl) (fun K hK => ?_) (AllReadyH.cons (by first | (simp only [List.getElem?_toArray, List.getElem?_cons_succ, List.getElem?_cons_zero]; rfl) | rfl) (fun K hK => ?_) AllReadyH.nil)
    · skip
      refine step_append_s (base := W1.heap.size) (v := .slice (some ⟨V1, 0, none⟩) 0 0) (xs := []) (news := m.ps) rfl _ _ rfl rfl rfl howv ((rd_of_sr (HS.out.1.below (HB1.out.trans (hBwv.mono HB1.out.size)) (Nat.le_refl _))).more (Nat.le_trans HB1.out.size hBwv.size)) HAP.out (cs_one m.ps) (by simp) hps hBwv.size ?_
      intro A8 t8 c8 wn HTwn HOwn HBwn
      have htwn : t8 = m.ps := by rw [HTwn.out, List.nil_append]
      subst htwn
      have hkwn : ∀ k, k < wv.heap.size → k ≠ V1 → wn.heap[k]? = wv.heap[k]? := fun k hk hne => HBwn.out.2.1 k hk (fun e => hne (by injection e))
      have hBwn := hBwv.trans HBwn.out.1
      have hsz1 := HBwn.out.1.size
      obtain ⟨z1, z2, z3, z4⟩ := sr_of_row2 (P := fun k => W1.heap.size ≤ k ∧ k < wn.heap.size ∧ k ≠ wn.heap.size) HOwn.out (fun k ho h1 h2 => ⟨h1, h2, by
        rcases HBwn.out.2.2 with e | e
        · rw [e] at ho; injection ho with ho; have ho : V1 = k := ho; omega
        · rw [e] at ho; injection ho with ho; omega⟩)
      have hx := (hBwn.block T lT).trans HQ.out.1
      have f := cells6T hx
      refine hK.out _ _ ⟨f.1, f.2.1, f.2.2.1, f.2.2.2.1, f.2.2.2.2.1, f.2.2.2.2.2.1⟩ (fun hHeld => ?_)
      clear hK K f hx
      try simp only [Act.put, List.setIfInBounds_toArray, List.set_cons_zero, List.set_cons_succ]
      refine wpAnyH_ready (rs := [6]) (by kernel_rfl) (by simp) ?_
      refine AllReadyH.cons (by first | (simp only [List.getElem?_toArray, List.getElem?_cons_succ, List.getElem?_cons_zero]; rfl) | rfl) (fun K hK => ?_) AllReadyH.nil
      go_simp
      show K _ (wn.alloc (.cells #[] 9))
      obtain ⟨wx, hwx⟩ : ∃ wx, (wn.alloc (.cells #[] 9)) = wx := ⟨_, rfl⟩
      have hbwx : Below wn.heap.size wn wx := by rw [← hwx]; exact ((Below.refl _ _).alloc (Nat.le_refl _) _)
      have hswx : Hid (wx.heap.size = wn.heap.size + 1) := Lib.hid (by rw [← hwx]; exact World.size_alloc _ _)
      obtain ⟨V2, hV2⟩ : ∃ V2, wn.heap.size = V2 := ⟨_, rfl⟩
      have howx : OwnS wx W1.heap.size (.slice (some ⟨V2, 0, none⟩) 0 0) [] := by rw [← hV2, ← hwx]; exact own_void wn 9 1 W1.heap.size (hBwn).size
      rw [hwx]
      clear hwx
      have hBwx := (hBwn).trans (hbwx.mono (hBwn).size)
      try simp only [hV2]
      have HV2 := Lib.hid hV2
      clear hV2
      have hx := (hBwx.block T lT).trans HQ.out.1
      have f := cells6T hx
      refine hK.out _ _ ⟨f.1, f.2.1, f.2.2.1, f.2.2.2.1, f.2.2.2.2.1, f.2.2.2.2.2.1⟩ (fun hHeld => ?_)
      clear hK K f hx
      try simp only [Act.put, List.setIfInBounds_toArray, List.set_cons_zero, List.set_cons_succ]
      refine wpAnyH_ready (rs := [9]) (by kernel_rfl) (by simp) ?_
      refine AllReadyH.cons (by first | (simp only [List.getElem?_toArray, List.getElem?_cons_succ, List.getElem?_cons_zero]; rfl) | rfl) (fun K hK => ?_) AllReadyH.nil
      refine step_append_s (base := W1.heap.size) (v := .slice (some ⟨V2, 0, none⟩) 0 0) (xs := []) (news := m.ts) rfl _ _ rfl rfl rfl howx ((rd_of_sr (HS.out.2.below (HB1.out.trans (hBwx.mono HB1.out.size)) (Nat.le_refl _))).more (Nat.le_trans HB1.out.size hBwx.size)) HAT.out (cs_one m.ts) (by simp) hts hBwx.size ?_
      intro A9 t9 c9 wm HTwm HOwm HBwm
      have htwm : t9 = m.ts := by rw [HTwm.out, List.nil_append]
      subst htwm
      have hkwm : ∀ k, k < wx.heap.size → k ≠ V2 → wm.heap[k]? = wx.heap[k]? := fun k hk hne => HBwm.out.2.1 k hk (fun e => hne (by injection e))
      have hBwm := hBwx.trans HBwm.out.1
      obtain ⟨y1, y2, y3, y4⟩ := sr_of_row2 (P := fun k => W1.heap.size ≤ k ∧ k < wm.heap.size) HOwm.out (fun k _ h1 h2 => ⟨h1, h2⟩)
      have z1 : SrAt wm (fun k => W1.heap.size ≤ k ∧ k < wm.heap.size) A8 m.ps := z1.keep fun k hk => ⟨(hkwm k (Nat.lt_of_lt_of_le hk.2.1 hbwx.size) (by have := HV2.out; have := hk.2.2; omega)).trans (hbwx.block k hk.2.1), hk.1, Nat.lt_of_lt_of_le hk.2.1 (Nat.le_trans hbwx.size HBwm.out.1.size)⟩
      have hx := (hBwm.block T lT).trans HQ.out.1
      have f := cells6T hx
      refine hK.out _ _ ⟨f.1, f.2.1, f.2.2.1, f.2.2.2.1, f.2.2.2.2.1, f.2.2.2.2.2.1⟩ (fun hHeld => ?_)
      clear hK K f hx
      try simp only [Act.put, List.setIfInBounds_toArray, List.set_cons_zero, List.set_cons_succ]
      refine wpAnyH_ready (rs := [14]) (by kernel_rfl) (by simp) ?_
      refine AllReadyH.cons (by first | (simp only [List.getElem?_toArray, List.getElem?_cons_succ, List.getElem?_cons_zero]; rfl) | rfl) (fun K hK => ?_) AllReadyH.nil
      go_simp
      refine (HRC.out wm hBwm).mono ?_
      rintro e wk ⟨hbk, A4, c4, rfl, hk1, hk2, hk3, hk4, es, he1, he2, he3⟩
      dsimp only
      have hBwk := hBwm.trans (hbk.mono hBwm.size)
      have y1 := y1.keep (w' := wk) (P' := fun k => W1.heap.size ≤ k ∧ k < wk.heap.size) (fun k hk => ⟨hbk.block k hk.2, hk.1, Nat.lt_of_lt_of_le hk.2 hbk.size⟩)
      have z1 := z1.keep (w' := wk) (P' := fun k => W1.heap.size ≤ k ∧ k < wk.heap.size) (fun k hk => ⟨hbk.block k hk.2, hk.1, Nat.lt_of_lt_of_le hk.2 hbk.size⟩)
      have hx := (hBwk.block T lT).trans HQ.out.1
      have f := cells6T hx
      refine hK.out _ _ ⟨f.1, f.2.1, f.2.2.1, f.2.2.2.1, f.2.2.2.2.1, f.2.2.2.2.2.1⟩ (fun hHeld => ?_)
      clear hK K f hx
      try simp only [Act.put, List.setIfInBounds_toArray, List.set_cons_zero, List.set_cons_succ]
      refine wpAnyH_take (i := 17) (v := ?_) (by first | (simp only [List.getElem?_toArray, List.getElem?_cons_succ, List.getElem?_cons_zero]; rfl) | rfl) (by kernel_rfl) (by kernel_rfl) (by kernel_rfl) (fun _ _ _ h => h) (Or.inl ⟨by rfl, ?_⟩) (by assumption) ?_
      rotate_left 1
      · (intro w' hSw; (try dsimp only at hSw); go_simp; (try with_reducible rfl))
      try simp only [Act.put, List.setIfInBounds_toArray, List.set_cons_zero, List.set_cons_succ]
      refine wpAnyH_ready (rs := [18]) (by kernel_rfl) (by simp) ?_
      refine AllReadyH.cons (by first | (simp only [List.getElem?_toArray, List.getElem?_cons_succ, List.getElem?_cons_zero]; rfl) | rfl) (fun K hK => ?_) AllReadyH.nil
      have hr := (hBwk.block (T + 1) lR).trans HQ.out.2
      have fu := cells6T hr
      have lu := lt_of_blk hr
      go_simp
      have g1 := set6T hr (.string (mkB m.nm)) (.slice A8 m.ps.length c8) (.slice A9 m.ts.length c9) (.int .i64 m.pr) (.slice A4 m.bd.length c4) (.int .i64 m.at_)
      obtain ⟨k1, k2⟩ := six_setT (w := wk) (C := T + 1) (.string (mkB m.nm)) (.slice A8 m.ps.length c8) (.slice A9 m.ts.length c9) (.int .i64 m.pr) (.slice A4 m.bd.length c4) (.int .i64 m.at_)
      have hb2 := HB1.out.trans (hBwk.mono HB1.out.size)
      have hbe := (((((hb2.setCell (p := ⟨T + 1, 0, none⟩) HTT.out (.string (mkB m.nm))).setCell (p := ⟨T + 1, 1, none⟩) HTT.out (.slice A8 m.ps.length c8)).setCell (p := ⟨T + 1, 2, none⟩) HTT.out (.slice A9 m.ts.length c9)).setCell (p := ⟨T + 1, 3, none⟩) HTT.out (.int .i64 m.pr)).setCell (p := ⟨T + 1, 4, none⟩) HTT.out (.slice A4 m.bd.length c4)).setCell (p := ⟨T + 1, 5, none⟩) HTT.out (.int .i64 m.at_)
      have hx := (k1 T (by omega)).trans ((hBwk.block T lT).trans HQ.out.1)
      have f := cells6T hx
      refine hK.out _ _ ⟨f.1, f.2.1, f.2.2.1, f.2.2.2.1, f.2.2.2.2.1, f.2.2.2.2.2.1⟩ (fun _ => ?_)
      refine wpAnyH_done (by kernel_rfl) ?_ _
      refine HKK.out _ _ ?_
      clear hx f fu lu hr
      go_wp2_with fail
      refine bodyPost_ret (v := .agg #[.string (mkB m.nm), .slice A8 m.ps.length c8, .slice A9 m.ts.length c9, .int .i64 m.pr, .slice A4 m.bd.length c4, .int .i64 m.at_]) (own_result g1 rfl) rfl ?_
      have e1 := HB1.out.size
      have e2 := hBwm.size
      have e3 := hbk.size
      refine ⟨_, rfl, ⟨A8, c8, A9, c9, A4, c4, rfl, z2, z3, y2, y3, hk1, hk2, z1.keep fun k hk => ⟨k1 k (by have := hk.1; omega), (.inr ⟨Nat.le_trans e1 hk.1, by rw [k2]; exact hk.2⟩)⟩, y1.keep fun k hk => ⟨k1 k (by have := hk.1; omega), (.inr ⟨Nat.le_trans e1 hk.1, by rw [k2]; exact hk.2⟩)⟩, hk3.keep fun k hk => ?_, z4, y4, hk4⟩, hbe, _, _, A4, c4, es, rfl, he1, he2.keepB (Nat.le_trans e1 e2) (fun k hk _ => k1 k (by omega)), fun x hx => (he3 x hx).keep fun k hk => ?_⟩
      · rcases hk with hk | ⟨a, b⟩
        · exact absurd hk (Nat.not_lt_zero k)
        · exact ⟨k1 k (by omega), (.inr ⟨by omega, by rw [k2]; exact b⟩)⟩
      · rcases hk with hk | ⟨a, b, c⟩
        · exact absurd hk (Nat.not_lt_zero k)
        · exact ⟨k1 k (by omega), (.inr ⟨by omega, by rw [k2]; exact b, c⟩)⟩
    · skip
      go_simp
      show K _ (wv.alloc (.cells #[] 9))
      obtain ⟨wx, hwx⟩ : ∃ wx, (wv.alloc (.cells #[] 9)) = wx := ⟨_, rfl⟩
      have hbwx : Below wv.heap.size wv wx := by rw [← hwx]; exact ((Below.refl _ _).alloc (Nat.le_refl _) _)
      have hswx : Hid (wx.heap.size = wv.heap.size + 1) := Lib.hid (by rw [← hwx]; exact World.size_alloc _ _)
      obtain ⟨V2, hV2⟩ : ∃ V2, wv.heap.size = V2 := ⟨_, rfl⟩
      have howx : OwnS wx W1.heap.size (.slice (some ⟨V2, 0, none⟩) 0 0) [] := by rw [← hV2, ← hwx]; exact own_void wv 9 1 W1.heap.size (hBwv).size
      rw [hwx]
      clear hwx
      have hBwx := (hBwv).trans (hbwx.mono (hBwv).size)
      try simp only [hV2]
      have HV2 := Lib.hid hV2
      clear hV2
      have howv := howv.below hbwx
      have hx := (hBwx.block T lT).trans HQ.out.1
      have f := cells6T hx
      refine hK.out _ _ ⟨f.1, f.2.1, f.2.2.1, f.2.2.2.1, f.2.2.2.2.1, f.2.2.2.2.2.1⟩ (fun hHeld => ?_)
      clear hK K f hx
      try simp only [Act.put, List.setIfInBounds_toArray, List.set_cons_zero, List.set_cons_succ]
      refine wpAnyH_ready (rs := [5]) (by kernel_rfl) (by simp) ?_
      refine AllReadyH.cons (by first | (simp only [List.getElem?_toArray, List.getElem?_cons_succ, List.getElem?_cons_zero]; rfl) | rfl) (fun K hK => ?_) AllReadyH.nil
      refine step_append_s (base := W1.heap.size) (v := .slice (some ⟨V1, 0, none⟩) 0 0) (xs := []) (news := m.ps) rfl _ _ rfl rfl rfl howv ((rd_of_sr (HS.out.1.below (HB1.out.trans (hBwx.mono HB1.out.size)) (Nat.le_refl _))).more (Nat.le_trans HB1.out.size hBwx.size)) HAP.out (cs_one m.ps) (by simp) hps hBwx.size ?_
      intro A8 t8 c8 wn HTwn HOwn HBwn
      have htwn : t8 = m.ps := by rw [HTwn.out, List.nil_append]
      subst htwn
      have hkwn : ∀ k, k < wx.heap.size → k ≠ V1 → wn.heap[k]? = wx.heap[k]? := fun k hk hne => HBwn.out.2.1 k hk (fun e => hne (by injection e))
      have hBwn := hBwx.trans HBwn.out.1
      have hsz1 := HBwn.out.1.size
      obtain ⟨z1, z2, z3, z4⟩ := sr_of_row2 (P := fun k => W1.heap.size ≤ k ∧ k < wn.heap.size ∧ k ≠ V2) HOwn.out (fun k ho h1 h2 => ⟨h1, h2, by
        rcases HBwn.out.2.2 with e | e
        · rw [e] at ho; injection ho with ho; have ho : V1 = k := ho; have := HV1.out; have := HV2.out; have := hswv.out; have := hswx.out; omega
        · rw [e] at ho; injection ho with ho; have := HV1.out; have := HV2.out; have := hswv.out; have := hswx.out; omega⟩)
      have howx : OwnS wn W1.heap.size (.slice (some ⟨V2, 0, none⟩) 0 0) [] := howx.keepB fun k e => hkwn k (by injection e with e; have e : V2 = k := e; have := HV2.out; have := HV1.out; have := hswv.out; have := hswx.out; omega) (by injection e with e; have e : V2 = k := e; have := HV1.out; have := HV2.out; have := hswv.out; have := hswx.out; omega)
      have hx := (hBwn.block T lT).trans HQ.out.1
      have f := cells6T hx
      refine hK.out _ _ ⟨f.1, f.2.1, f.2.2.1, f.2.2.2.1, f.2.2.2.2.1, f.2.2.2.2.2.1⟩ (fun hHeld => ?_)
      clear hK K f hx
      try simp only [Act.put, List.setIfInBounds_toArray, List.set_cons_zero, List.set_cons_succ]
      refine wpAnyH_ready (rs := [9]) (by kernel_rfl) (by simp) ?_
      refine AllReadyH.cons (by first | (simp only [List.getElem?_toArray, List.getElem?_cons_succ, List.getElem?_cons_zero]; rfl) | rfl) (fun K hK => ?_) AllReadyH.nil
      refine step_append_s (base := W1.heap.size) (v := .slice (some ⟨V2, 0, none⟩) 0 0) (xs := []) (news := m.ts) rfl _ _ rfl rfl rfl howx ((rd_of_sr (HS.out.2.below (HB1.out.trans (hBwn.mono HB1.out.size)) (Nat.le_refl _))).more (Nat.le_trans HB1.out.size hBwn.size)) HAT.out (cs_one m.ts) (by simp) hts hBwn.size ?_
      intro A9 t9 c9 wm HTwm HOwm HBwm
      have htwm : t9 = m.ts := by rw [HTwm.out, List.nil_append]
      subst htwm
      have hkwm : ∀ k, k < wn.heap.size → k ≠ V2 → wm.heap[k]? = wn.heap[k]? := fun k hk hne => HBwm.out.2.1 k hk (fun e => hne (by injection e))
      have hBwm := hBwn.trans HBwm.out.1
      obtain ⟨y1, y2, y3, y4⟩ := sr_of_row2 (P := fun k => W1.heap.size ≤ k ∧ k < wm.heap.size) HOwm.out (fun k _ h1 h2 => ⟨h1, h2⟩)
      have z1 : SrAt wm (fun k => W1.heap.size ≤ k ∧ k < wm.heap.size) A8 m.ps := z1.keep fun k hk => ⟨hkwm k hk.2.1 hk.2.2, hk.1, Nat.lt_of_lt_of_le hk.2.1 HBwm.out.1.size⟩
      have hx := (hBwm.block T lT).trans HQ.out.1
      have f := cells6T hx
      refine hK.out _ _ ⟨f.1, f.2.1, f.2.2.1, f.2.2.2.1, f.2.2.2.2.1, f.2.2.2.2.2.1⟩ (fun hHeld => ?_)
      clear hK K f hx
      try simp only [Act.put, List.setIfInBounds_toArray, List.set_cons_zero, List.set_cons_succ]
      refine wpAnyH_ready (rs := [14]) (by kernel_rfl) (by simp) ?_
      refine AllReadyH.cons (by first | (simp only [List.getElem?_toArray, List.getElem?_cons_succ, List.getElem?_cons_zero]; rfl) | rfl) (fun K hK => ?_) AllReadyH.nil
      go_simp
      refine (HRC.out wm hBwm).mono ?_
      rintro e wk ⟨hbk, A4, c4, rfl, hk1, hk2, hk3, hk4, es, he1, he2, he3⟩
      dsimp only
      have hBwk := hBwm.trans (hbk.mono hBwm.size)
      have y1 := y1.keep (w' := wk) (P' := fun k => W1.heap.size ≤ k ∧ k < wk.heap.size) (fun k hk => ⟨hbk.block k hk.2, hk.1, Nat.lt_of_lt_of_le hk.2 hbk.size⟩)
      have z1 := z1.keep (w' := wk) (P' := fun k => W1.heap.size ≤ k ∧ k < wk.heap.size) (fun k hk => ⟨hbk.block k hk.2, hk.1, Nat.lt_of_lt_of_le hk.2 hbk.size⟩)
      have hx := (hBwk.block T lT).trans HQ.out.1
      have f := cells6T hx
      refine hK.out _ _ ⟨f.1, f.2.1, f.2.2.1, f.2.2.2.1, f.2.2.2.2.1, f.2.2.2.2.2.1⟩ (fun hHeld => ?_)
      clear hK K f hx
      try simp only [Act.put, List.setIfInBounds_toArray, List.set_cons_zero, List.set_cons_succ]
      refine wpAnyH_take (i := 17) (v := ?_) (by first | (simp only [List.getElem?_toArray, List.getElem?_cons_succ, List.getElem?_cons_zero]; rfl) | rfl) (by kernel_rfl) (by kernel_rfl) (by kernel_rfl) (fun _ _ _ h => h) (Or.inl ⟨by rfl, ?_⟩) (by assumption) ?_
      rotate_left 1
      · (intro w' hSw; (try dsimp only at hSw); go_simp; (try with_reducible rfl))
      try simp only [Act.put, List.setIfInBounds_toArray, List.set_cons_zero, List.set_cons_succ]
      refine wpAnyH_ready (rs := [18]) (by kernel_rfl) (by simp) ?_
      refine AllReadyH.cons (by first | (simp only [List.getElem?_toArray, List.getElem?_cons_succ, List.getElem?_cons_zero]; rfl) | rfl) (fun K hK => ?_) AllReadyH.nil
      have hr := (hBwk.block (T + 1) lR).trans HQ.out.2
      have fu := cells6T hr
      have lu := lt_of_blk hr
      go_simp
      have g1 := set6T hr (.string (mkB m.nm)) (.slice A8 m.ps.length c8) (.slice A9 m.ts.length c9) (.int .i64 m.pr) (.slice A4 m.bd.length c4) (.int .i64 m.at_)
      obtain ⟨k1, k2⟩ := six_setT (w := wk) (C := T + 1) (.string (mkB m.nm)) (.slice A8 m.ps.length c8) (.slice A9 m.ts.length c9) (.int .i64 m.pr) (.slice A4 m.bd.length c4) (.int .i64 m.at_)
      have hb2 := HB1.out.trans (hBwk.mono HB1.out.size)
      have hbe := (((((hb2.setCell (p := ⟨T + 1, 0, none⟩) HTT.out (.string (mkB m.nm))).setCell (p := ⟨T + 1, 1, none⟩) HTT.out (.slice A8 m.ps.length c8)).setCell (p := ⟨T + 1, 2, none⟩) HTT.out (.slice A9 m.ts.length c9)).setCell (p := ⟨T + 1, 3, none⟩) HTT.out (.int .i64 m.pr)).setCell (p := ⟨T + 1, 4, none⟩) HTT.out (.slice A4 m.bd.length c4)).setCell (p := ⟨T + 1, 5, none⟩) HTT.out (.int .i64 m.at_)
      have hx := (k1 T (by omega)).trans ((hBwk.block T lT).trans HQ.out.1)
      have f := cells6T hx
      refine hK.out _ _ ⟨f.1, f.2.1, f.2.2.1, f.2.2.2.1, f.2.2.2.2.1, f.2.2.2.2.2.1⟩ (fun _ => ?_)
      refine wpAnyH_done (by kernel_rfl) ?_ _
      refine HKK.out _ _ ?_
      clear hx f fu lu hr
      go_wp2_with fail
      refine bodyPost_ret (v := .agg #[.string (mkB m.nm), .slice A8 m.ps.length c8, .slice A9 m.ts.length c9, .int .i64 m.pr, .slice A4 m.bd.length c4, .int .i64 m.at_]) (own_result g1 rfl) rfl ?_
      have e1 := HB1.out.size
      have e2 := hBwm.size
      have e3 := hbk.size
      refine ⟨_, rfl, ⟨A8, c8, A9, c9, A4, c4, rfl, z2, z3, y2, y3, hk1, hk2, z1.keep fun k hk => ⟨k1 k (by have := hk.1; omega), (.inr ⟨Nat.le_trans e1 hk.1, by rw [k2]; exact hk.2⟩)⟩, y1.keep fun k hk => ⟨k1 k (by have := hk.1; omega), (.inr ⟨Nat.le_trans e1 hk.1, by rw [k2]; exact hk.2⟩)⟩, hk3.keep fun k hk => ?_, z4, y4, hk4⟩, hbe, _, _, A4, c4, es, rfl, he1, he2.keepB (Nat.le_trans e1 e2) (fun k hk _ => k1 k (by omega)), fun x hx => (he3 x hx).keep fun k hk => ?_⟩
      · rcases hk with hk | ⟨a, b⟩
        · exact absurd hk (Nat.not_lt_zero k)
        · exact ⟨k1 k (by omega), (.inr ⟨by omega, by rw [k2]; exact b⟩)⟩
      · rcases hk with hk | ⟨a, b, c⟩
        · exact absurd hk (Nat.not_lt_zero k)
        · exact ⟨k1 k (by omega), (.inr ⟨by omega, by rw [k2]; exact b, c⟩)⟩
  · skip
    go_simp
    show K _ (W1.alloc (.cells #[] 9)).drew
    obtain ⟨wx, hwx⟩ : ∃ wx, (W1.alloc (.cells #[] 9)).drew = wx := ⟨_, rfl⟩
    have hbwx : Below W1.heap.size W1 wx := by rw [← hwx]; exact ((Below.refl _ _).alloc (Nat.le_refl _) _).drew
    have hswx : Hid (wx.heap.size = W1.heap.size + 1) := Lib.hid (by rw [← hwx]; exact World.size_alloc _ _)
    obtain ⟨V2, hV2⟩ : ∃ V2, W1.heap.size = V2 := ⟨_, rfl⟩
    have howx : OwnS wx W1.heap.size (.slice (some ⟨V2, 0, none⟩) 0 0) [] := by rw [← hV2, ← hwx]; exact own_void W1 9 1 W1.heap.size (Below.refl W1.heap.size W1).size
    rw [hwx]
    clear hwx
    have hBwx := (Below.refl W1.heap.size W1).trans (hbwx.mono (Below.refl W1.heap.size W1).size)
    try simp only [hV2]
    have HV2 := Lib.hid hV2
    clear hV2
    have hx := (hBwx.block T lT).trans HQ.out.1
    have f := cells6T hx
    refine hK.out _ _ ⟨f.1, f.2.1, f.2.2.1, f.2.2.2.1, f.2.2.2.2.1, f.2.2.2.2.2.1⟩ (fun hHeld => ?_)
    clear hK K f hx
    try simp only [Act.put, List.setIfInBounds_toArray, List.set_cons_zero, List.set_cons_succ]
    refine wpAnyH_ready (rs := [2]) (by kernel_rfl) (by simp) ?_
    refine AllReadyH.cons (by first | (simp only [List.getElem?_toArray, List.getElem?_cons_succ, List.getElem?_cons_zero]; rfl) | rfl) (fun K hK => ?_) AllReadyH.nil
    go_simp
    show K _ (wx.alloc (.cells #[] 9))
    obtain ⟨wv, hwv⟩ : ∃ wv, (wx.alloc (.cells #[] 9)) = wv := ⟨_, rfl⟩
    have hbwv : Below wx.heap.size wx wv := by rw [← hwv]; exact ((Below.refl _ _).alloc (Nat.le_refl _) _)
    have hswv : Hid (wv.heap.size = wx.heap.size + 1) := Lib.hid (by rw [← hwv]; exact World.size_alloc _ _)
    obtain ⟨V1, hV1⟩ : ∃ V1, wx.heap.size = V1 := ⟨_, rfl⟩
    have howv : OwnS wv W1.heap.size (.slice (some ⟨V1, 0, none⟩) 0 0) [] := by rw [← hV1, ← hwv]; exact own_void wx 9 1 W1.heap.size (hBwx).size
    rw [hwv]
    clear hwv
    have hBwv := (hBwx).trans (hbwv.mono (hBwx).size)
    try simp only [hV1]
    have HV1 := Lib.hid hV1
    clear hV1
    have howx := howx.below hbwv
    have hx := (hBwv.block T lT).trans HQ.out.1
    have f := cells6T hx
    refine hK.out _ _ ⟨f.1, f.2.1, f.2.2.1, f.2.2.2.1, f.2.2.2.2.1, f.2.2.2.2.2.1⟩ (fun hHeld => ?_)
    clear hK K f hx
    try simp only [Act.put, List.setIfInBounds_toArray, List.set_cons_zero, List.set_cons_succ]
    refine wpAnyH_ready (rs := [5]) (by kernel_rfl) (by simp) ?_
    refine AllReadyH.cons (by first | (simp only [List.getElem?_toArray, List.getElem?_cons_succ, List.getElem?_cons_zero]; rfl) | rfl) (fun K hK => ?_) AllReadyH.nil
    refine step_append_s (base := W1.heap.size) (v := .slice (some ⟨V1, 0, none⟩) 0 0) (xs := []) (news := m.ps) rfl _ _ rfl rfl rfl howv ((rd_of_sr (HS.out.1.below (HB1.out.trans (hBwv.mono HB1.out.size)) (Nat.le_refl _))).more (Nat.le_trans HB1.out.size hBwv.size)) HAP.out (cs_one m.ps) (by simp) hps hBwv.size ?_
    intro A8 t8 c8 wn HTwn HOwn HBwn
    have htwn : t8 = m.ps := by rw [HTwn.out, List.nil_append]
    subst htwn
    have hkwn : ∀ k, k < wv.heap.size → k ≠ V1 → wn.heap[k]? = wv.heap[k]? := fun k hk hne => HBwn.out.2.1 k hk (fun e => hne (by injection e))
    have hBwn := hBwv.trans HBwn.out.1
    have hsz1 := HBwn.out.1.size
    obtain ⟨z1, z2, z3, z4⟩ := sr_of_row2 (P := fun k => W1.heap.size ≤ k ∧ k < wn.heap.size ∧ k ≠ V2) HOwn.out (fun k ho h1 h2 => ⟨h1, h2, by
      rcases HBwn.out.2.2 with e | e
      · rw [e] at ho; injection ho with ho; have ho : V1 = k := ho; have := HV1.out; have := HV2.out; have := hswv.out; have := hswx.out; omega
      · rw [e] at ho; injection ho with ho; have := HV1.out; have := HV2.out; have := hswv.out; have := hswx.out; omega⟩)
    have howx : OwnS wn W1.heap.size (.slice (some ⟨V2, 0, none⟩) 0 0) [] := howx.keepB fun k e => hkwn k (by injection e with e; have e : V2 = k := e; have := HV2.out; have := HV1.out; have := hswv.out; have := hswx.out; omega) (by injection e with e; have e : V2 = k := e; have := HV1.out; have := HV2.out; have := hswv.out; have := hswx.out; omega)
    have hx := (hBwn.block T lT).trans HQ.out.1
    have f := cells6T hx
    refine hK.out _ _ ⟨f.1, f.2.1, f.2.2.1, f.2.2.2.1, f.2.2.2.2.1, f.2.2.2.2.2.1⟩ (fun hHeld => ?_)
    clear hK K f hx
    try simp only [Act.put, List.setIfInBounds_toArray, List.set_cons_zero, List.set_cons_succ]
    refine wpAnyH_ready (rs := [9]) (by kernel_rfl) (by simp) ?_
    refine AllReadyH.cons (by first | (simp only [List.getElem?_toArray, List.getElem?_cons_succ, List.getElem?_cons_zero]; rfl) | rfl) (fun K hK => ?_) AllReadyH.nil
    refine step_append_s (base := W1.heap.size) (v := .slice (some ⟨V2, 0, none⟩) 0 0) (xs := []) (news := m.ts) rfl _ _ rfl rfl rfl howx ((rd_of_sr (HS.out.2.below (HB1.out.trans (hBwn.mono HB1.out.size)) (Nat.le_refl _))).more (Nat.le_trans HB1.out.size hBwn.size)) HAT.out (cs_one m.ts) (by simp) hts hBwn.size ?_
    intro A9 t9 c9 wm HTwm HOwm HBwm
    have htwm : t9 = m.ts := by rw [HTwm.out, List.nil_append]
    subst htwm
    have hkwm : ∀ k, k < wn.heap.size → k ≠ V2 → wm.heap[k]? = wn.heap[k]? := fun k hk hne => HBwm.out.2.1 k hk (fun e => hne (by injection e))
    have hBwm := hBwn.trans HBwm.out.1
    obtain ⟨y1, y2, y3, y4⟩ := sr_of_row2 (P := fun k => W1.heap.size ≤ k ∧ k < wm.heap.size) HOwm.out (fun k _ h1 h2 => ⟨h1, h2⟩)
    have z1 : SrAt wm (fun k => W1.heap.size ≤ k ∧ k < wm.heap.size) A8 m.ps := z1.keep fun k hk => ⟨hkwm k hk.2.1 hk.2.2, hk.1, Nat.lt_of_lt_of_le hk.2.1 HBwm.out.1.size⟩
    have hx := (hBwm.block T lT).trans HQ.out.1
    have f := cells6T hx
    refine hK.out _ _ ⟨f.1, f.2.1, f.2.2.1, f.2.2.2.1, f.2.2.2.2.1, f.2.2.2.2.2.1⟩ (fun hHeld => ?_)
    clear hK K f hx
    try simp only [Act.put, List.setIfInBounds_toArray, List.set_cons_zero, List.set_cons_succ]
    refine wpAnyH_ready (rs := [14]) (by kernel_rfl) (by simp) ?_
    refine AllReadyH.cons (by first | (simp only [List.getElem?_toArray, List.getElem?_cons_succ, List.getElem?_cons_zero]; rfl) | rfl) (fun K hK => ?_) AllReadyH.nil
    go_simp
    refine (HRC.out wm hBwm).mono ?_
    rintro e wk ⟨hbk, A4, c4, rfl, hk1, hk2, hk3, hk4, es, he1, he2, he3⟩
    dsimp only
    have hBwk := hBwm.trans (hbk.mono hBwm.size)
    have y1 := y1.keep (w' := wk) (P' := fun k => W1.heap.size ≤ k ∧ k < wk.heap.size) (fun k hk => ⟨hbk.block k hk.2, hk.1, Nat.lt_of_lt_of_le hk.2 hbk.size⟩)
    have z1 := z1.keep (w' := wk) (P' := fun k => W1.heap.size ≤ k ∧ k < wk.heap.size) (fun k hk => ⟨hbk.block k hk.2, hk.1, Nat.lt_of_lt_of_le hk.2 hbk.size⟩)
    have hx := (hBwk.block T lT).trans HQ.out.1
    have f := cells6T hx
    refine hK.out _ _ ⟨f.1, f.2.1, f.2.2.1, f.2.2.2.1, f.2.2.2.2.1, f.2.2.2.2.2.1⟩ (fun hHeld => ?_)
    clear hK K f hx
    try simp only [Act.put, List.setIfInBounds_toArray, List.set_cons_zero, List.set_cons_succ]
    refine wpAnyH_take (i := 17) (v := ?_) (by first | (simp only [List.getElem?_toArray, List.getElem?_cons_succ, List.getElem?_cons_zero]; rfl) | rfl) (by kernel_rfl) (by kernel_rfl) (by kernel_rfl) (fun _ _ _ h => h) (Or.inl ⟨by rfl, ?_⟩) (by assumption) ?_
    rotate_left 1
    · (intro w' hSw; (try dsimp only at hSw); go_simp; (try with_reducible rfl))
    try simp only [Act.put, List.setIfInBounds_toArray, List.set_cons_zero, List.set_cons_succ]
    refine wpAnyH_ready (rs := [18]) (by kernel_rfl) (by simp) ?_
    refine AllReadyH.cons (by first | (simp only [List.getElem?_toArray, List.getElem?_cons_succ, List.getElem?_cons_zero]; rfl) | rfl) (fun K hK => ?_) AllReadyH.nil
    have hr := (hBwk.block (T + 1) lR).trans HQ.out.2
    have fu := cells6T hr
    have lu := lt_of_blk hr
    go_simp
    have g1 := set6T hr (.string (mkB m.nm)) (.slice A8 m.ps.length c8) (.slice A9 m.ts.length c9) (.int .i64 m.pr) (.slice A4 m.bd.length c4) (.int .i64 m.at_)
    obtain ⟨k1, k2⟩ := six_setT (w := wk) (C := T + 1) (.string (mkB m.nm)) (.slice A8 m.ps.length c8) (.slice A9 m.ts.length c9) (.int .i64 m.pr) (.slice A4 m.bd.length c4) (.int .i64 m.at_)
    have hb2 := HB1.out.trans (hBwk.mono HB1.out.size)
    have hbe := (((((hb2.setCell (p := ⟨T + 1, 0, none⟩) HTT.out (.string (mkB m.nm))).setCell (p := ⟨T + 1, 1, none⟩) HTT.out (.slice A8 m.ps.length c8)).setCell (p := ⟨T + 1, 2, none⟩) HTT.out (.slice A9 m.ts.length c9)).setCell (p := ⟨T + 1, 3, none⟩) HTT.out (.int .i64 m.pr)).setCell (p := ⟨T + 1, 4, none⟩) HTT.out (.slice A4 m.bd.length c4)).setCell (p := ⟨T + 1, 5, none⟩) HTT.out (.int .i64 m.at_)
    have hx := (k1 T (by omega)).trans ((hBwk.block T lT).trans HQ.out.1)
    have f := cells6T hx
    refine hK.out _ _ ⟨f.1, f.2.1, f.2.2.1, f.2.2.2.1, f.2.2.2.2.1, f.2.2.2.2.2.1⟩ (fun _ => ?_)
    refine wpAnyH_done (by kernel_rfl) ?_ _
    refine HKK.out _ _ ?_
    clear hx f fu lu hr
    go_wp2_with fail
    refine bodyPost_ret (v := .agg #[.string (mkB m.nm), .slice A8 m.ps.length c8, .slice A9 m.ts.length c9, .int .i64 m.pr, .slice A4 m.bd.length c4, .int .i64 m.at_]) (own_result g1 rfl) rfl ?_
    have e1 := HB1.out.size
    have e2 := hBwm.size
    have e3 := hbk.size
    refine ⟨_, rfl, ⟨A8, c8, A9, c9, A4, c4, rfl, z2, z3, y2, y3, hk1, hk2, z1.keep fun k hk => ⟨k1 k (by have := hk.1; omega), (.inr ⟨Nat.le_trans e1 hk.1, by rw [k2]; exact hk.2⟩)⟩, y1.keep fun k hk => ⟨k1 k (by have := hk.1; omega), (.inr ⟨Nat.le_trans e1 hk.1, by rw [k2]; exact hk.2⟩)⟩, hk3.keep fun k hk => ?_, z4, y4, hk4⟩, hbe, _, _, A4, c4, es, rfl, he1, he2.keepB (Nat.le_trans e1 e2) (fun k hk _ => k1 k (by omega)), fun x hx => (he3 x hx).keep fun k hk => ?_⟩
    · rcases hk with hk | ⟨a, b⟩
      · exact absurd hk (Nat.not_lt_zero k)
      · exact ⟨k1 k (by omega), (.inr ⟨by omega, by rw [k2]; exact b⟩)⟩
    · rcases hk with hk | ⟨a, b, c⟩
      · exact absurd hk (Nat.not_lt_zero k)
      · exact ⟨k1 k (by omega), (.inr ⟨by omega, by rw [k2]; exact b, c⟩)⟩
end Go.Proofs.YtfcceojfcmgmlaaGreatDoor.Fl

/-
  All nodes gone through: the law's closure, the program's walk.
-/
namespace Go.Proofs.YtfcceojfcmgmlaaGreatDoor.Fl
open Go.RowKit Go.Shelf

/-- what the closure holds: how far it has come in a row of nodes -/
structure WsI (w : World) (P Q : Nat) (A : Option Addr) (c : Nat) (L : List NE) (n stop : Nat) : Prop where
  l : w.heap[P]? = some (.cells #[.slice A L.length c] 23 (0, 0))
  n : w.heap[Q]? = some (.cells #[.int .i64 (n : Int)] 3 (0, 0))
  s : w.heap[Q + 1]? = some (.cells #[.bool true] 4 (0, 0))
  st : w.heap[Q + 2]? = some (.cells #[.int .i64 (stop : Int)] 3 (0, 0))
  row : Rd w P A (ne_ L)
  lt : P < Q
/-- what stands in memory beside two blocks has not changed -/
structure OvQ (Q : Nat) (w w' : World) : Prop where
  os : w'.os = w.os
  tape : w'.tape = w.tape
  output : w'.output = w.output
  size : w.heap.size ≤ w'.heap.size
  block : ∀ k, k < w.heap.size → k ≠ Q → k ≠ Q + 1 → w'.heap[k]? = w.heap[k]?
theorem OvQ.refl (R : Nat) (w : World) : OvQ R w w := ⟨rfl, rfl, rfl, Nat.le_refl _, fun _ _ _ _ => rfl⟩
theorem OvQ.trans {R : Nat} {w w1 w2 : World} (h : OvQ R w w1) (k : OvQ R w1 w2) : OvQ R w w2 :=
  ⟨k.os.trans h.os, k.tape.trans h.tape, k.output.trans h.output, Nat.le_trans h.size k.size, fun j hj hn hm => (k.block j (Nat.lt_of_lt_of_le hj h.size) hn hm).trans (h.block j hj hn hm)⟩
theorem OvQ.of_below {R : Nat} {w w' : World} (h : Below w.heap.size w w') : OvQ R w w' := ⟨h.os, h.tape, h.output, h.size, fun k hk _ _ => h.block k hk⟩
theorem OvQ.below {R B : Nat} {w w' : World} (h : OvQ R w w') (hB : B ≤ w.heap.size) (hR : B ≤ R) : Below B w w' :=
  ⟨h.os, h.tape, h.output, h.size, fun k hk => h.block k (by omega) (by omega) (by omega)⟩
theorem row_node {w : World} {B : Nat} {A : Option Addr} {L : List NE} (h : Rd w B A (ne_ L)) {i : Nat} (hi : i < L.length) : ∃ b o, A = some ⟨b, o, none⟩ ∧ b < B ∧
    w.cell? ⟨b, o + i * 6, none⟩ = some (.int .i64 L[i].1.kd) ∧ w.cell? ⟨b, o + i * 6 + 1, none⟩ = some (.string (mkB L[i].1.nm)) ∧ w.cell? ⟨b, o + i * 6 + 2, none⟩ = some (.int .i64 L[i].1.nu) := by
  rcases h with h | ⟨b, off, rfl, hb, hc⟩
  · exact absurd h (by
      cases L with
      | nil => cases hi
      | cons x l => show ne6 x ++ ne_ l ≠ []; simp [ne6])
  · refine ⟨b, off, rfl, hb, ?_, ?_, ?_⟩
    · have := hc (i * 6 + 0) _ ((ne__get L i hi 0 (by omega)).trans rfl); exact this
    · have := hc (i * 6 + 1) _ ((ne__get L i hi 1 (by omega)).trans rfl); exact this
    · have := hc (i * 6 + 2) _ ((ne__get L i hi 2 (by omega)).trans rfl); exact this
theorem WsI.below {w w' : World} {P Q c n stop : Nat} {A : Option Addr} {L : List NE} (h : WsI w P Q A c L n stop) (hb : Below w.heap.size w w') : WsI w' P Q A c L n stop :=
  ⟨(hb.block P (lt_of_blk h.l)).trans h.l, (hb.block Q (lt_of_blk h.n)).trans h.n, (hb.block (Q + 1) (lt_of_blk h.s)).trans h.s, (hb.block (Q + 2) (lt_of_blk h.st)).trans h.st, h.row.below (hb.mono (Nat.le_of_lt (lt_of_blk h.l))) (Nat.le_refl _), h.lt⟩
theorem rd_set {w : World} {B k o : Nat} {A : Option Addr} {l : List Value} (h : Rd w B A l) (hk : B ≤ k) (v : Value) : Rd (w.setCell ⟨k, o, none⟩ v) B A l := by
  rcases h with h | ⟨b, off, e, hb, hc⟩
  · exact .inl h
  · refine .inr ⟨b, off, e, hb, fun j u hj => ?_⟩
    have := hc j u hj
    unfold World.cell? at this ⊢
    rw [Below.heap_setCell w ⟨k, o, none⟩ v b (show b ≠ k by omega)]
    exact this
theorem WsI.setS {w : World} {P Q c n stop : Nat} {A : Option Addr} {L : List NE} (h : WsI w P Q A c L n stop) : WsI (w.setCell ⟨Q + 1, 0, none⟩ (.bool true)) P Q A c L n stop :=
  have e := h.lt
  ⟨(Below.heap_setCell w ⟨Q + 1, 0, none⟩ _ P (show P ≠ Q + 1 by omega)).trans h.l, (Below.heap_setCell w ⟨Q + 1, 0, none⟩ _ Q (show Q ≠ Q + 1 by omega)).trans h.n, heap_setCell_same w (Q + 1) 0 _ _ _ h.s,
    (Below.heap_setCell w ⟨Q + 1, 0, none⟩ _ (Q + 2) (show Q + 2 ≠ Q + 1 by omega)).trans h.st, rd_set h.row (by omega) _, h.lt⟩
theorem WsI.setN {w : World} {P Q c n m stop : Nat} {A : Option Addr} {L : List NE} (h : WsI w P Q A c L n stop) : WsI (w.setCell ⟨Q, 0, none⟩ (.int .i64 (m : Int))) P Q A c L m stop :=
  have e := h.lt
  ⟨(Below.heap_setCell w ⟨Q, 0, none⟩ _ P (show P ≠ Q by omega)).trans h.l, heap_setCell_same w Q 0 _ _ _ h.n, (Below.heap_setCell w ⟨Q, 0, none⟩ _ (Q + 1) (show Q + 1 ≠ Q by omega)).trans h.s,
    (Below.heap_setCell w ⟨Q, 0, none⟩ _ (Q + 2) (show Q + 2 ≠ Q by omega)).trans h.st, rd_set h.row (by omega) _, h.lt⟩
theorem OvQ.set {Q : Nat} (w : World) (j : Nat) (hj : j = Q ∨ j = Q + 1) (v : Value) : OvQ Q w (w.setCell ⟨j, 0, none⟩ v) :=
  ⟨rfl, rfl, rfl, Nat.le_of_eq (by simp [World.setCell]), fun k _ hn hm => Below.heap_setCell _ ⟨j, 0, none⟩ _ k (show k ≠ j by omega)⟩
set_option maxRecDepth 100000 in
set_option maxHeartbeats 8000000 in
theorem see_any (x : Nd) (sk sn : Value) (P Q : Nat) (A : Option Addr) (c : Nat) (L : List NE) (n stop : Nat) (w : World) (h : WsI w P Q A c L n stop) (hn : n < L.length) (hx : L[n].1 = x) (hl : L.length ≤ 10000000) :
    Calls Tryz.prog 22 #[.agg #[.int .i64 x.kd, .string (mkB x.nm), .int .i64 x.nu, sk, sn, .int .i64 x.at_], .pointer (some ⟨Q + 1, 0, none⟩), .pointer (some ⟨Q, 0, none⟩), .pointer (some ⟨P, 0, none⟩), .pointer (some ⟨Q + 2, 0, none⟩)] w
      fun e w' => e = .returned (.bool (decide (n + 1 ≤ stop))) ∧ WsI w' P Q A c L (n + 1) stop ∧ OvQ Q w w' := by
  obtain ⟨W1, hW1⟩ : ∃ W1, w.alloc (.cells #[.int .i64 x.kd, .string (mkB x.nm), .int .i64 x.nu, sk, sn, .int .i64 x.at_] 47) = W1 := ⟨_, rfl⟩
  have hb1 : Below w.heap.size w W1 := by rw [← hW1]; exact (Below.refl _ _).alloc (Nat.le_refl _) _
  obtain ⟨X, hX⟩ : ∃ X, w.heap.size = X := ⟨_, rfl⟩
  have hx1 : W1.heap[X]? = some (.cells #[.int .i64 x.kd, .string (mkB x.nm), .int .i64 x.nu, sk, sn, .int .i64 x.at_] 47 (0, 0)) := by
    rw [← hW1, ← hX]; exact heap_alloc_new w _
  have h1 := h.below hb1
  clear h
  obtain ⟨b, o, rfl, hb, d0, d1, d2⟩ := row_node h1.row hn
  rw [hx] at d0 d1 d2
  go_enter Tryz.func22, Tryz.ntmps22
  go_upto_region 1 with fail
  try simp only [hW1, hX]
  have hX0 := Lib.hid hX
  have H1 := Lib.hid h1
  have HB := Lib.hid hb1
  have hlb : b < W1.heap.size := Nat.lt_trans hb (lt_of_blk h1.l)
  have f1 := cells6T hx1
  have f2 := cells1T h1.l
  have f3 := cells1T h1.n
  have f4 := cells1T h1.s
  have l1 := lt_of_blk hx1
  have l2 := lt_of_blk h1.l
  have l3 := lt_of_blk h1.n
  have l4 := lt_of_blk h1.s
  have hq : (n : Int) < (L.length : Int) := by omega
  have hq0 : (0 : Int) ≤ (n : Int) := by omega
  clear hW1 hX h1 hb1
  go_region
  have h2 : WsI (W1.setCell ⟨Q + 1, 0, none⟩ (.bool true)).drew P Q (some ⟨b, o, none⟩) c L n stop := H1.out.setS.below ((Below.refl _ _).drew)
  have ho2 : OvQ Q w (W1.setCell ⟨Q + 1, 0, none⟩ (.bool true)).drew := ((OvQ.of_below HB.out).trans (OvQ.set W1 (Q + 1) (.inr rfl) _)).trans (OvQ.of_below ((Below.refl _ _).drew))
  generalize (W1.setCell ⟨Q + 1, 0, none⟩ (.bool true)).drew = W2 at *
  clear f1 f2 f3 f4 l1 l2 l3 l4 hlb d0 d1 d2 hx1 H1 HB hb
  have f3 := cells1T h2.n
  have f5 := cells1T h2.st
  have l3 := lt_of_blk h2.n
  have l5 := lt_of_blk h2.st
  have h3 : WsI (W2.setCell ⟨Q, 0, none⟩ (.int .i64 ((n + 1 : Nat) : Int))) P Q (some ⟨b, o, none⟩) c L (n + 1) stop := h2.setN
  have ho3 := ho2.trans (OvQ.set W2 Q (.inl rfl) (.int .i64 ((n + 1 : Nat) : Int)))
  have en : ((n + 1 : Nat) : Int) = (n : Int) + 1 := by omega
  rw [en] at h3 ho3
  have H3 := Lib.hid h3
  have HO := Lib.hid ho3
  clear h3 ho3 ho2
  have H2 := Lib.hid h2
  clear h2
  by_cases hst : n + 1 ≤ stop
  · have hs1 : (n : Int) + 1 ≤ (stop : Int) := by omega
    go_wp2_with fail
    go_ret
    refine ⟨?_, H3.out, HO.out⟩
    simp [hst]
  · have hs1 : ¬ (n : Int) + 1 ≤ (stop : Int) := by omega
    go_wp2_with fail
    go_ret
    refine ⟨?_, H3.out, HO.out⟩
    simp []
end Go.Proofs.YtfcceojfcmgmlaaGreatDoor.Fl

/-
  All nodes gone through: the program's walk with the law's closure.
-/
namespace Go.Proofs.YtfcceojfcmgmlaaGreatDoor.Fl
open Go.RowKit Go.Shelf

/-- a row of nodes holds these from here on -/
def Seg (L : List Nd) (n : Nat) (l : List Nd) : Prop := ∃ pre post, L = pre ++ (l ++ post) ∧ pre.length = n
theorem Seg.head {L l : List Nd} {x : Nd} {n : Nat} (h : Seg L n (x :: l)) : L[n]? = some x := by
  obtain ⟨pre, post, rfl, rfl⟩ := h
  rw [List.getElem?_append_right (Nat.le_refl _), Nat.sub_self]
  rfl
theorem Seg.sub {L a b c : List Nd} {n : Nat} (h : Seg L n (a ++ (b ++ c))) : Seg L (n + a.length) b := by
  obtain ⟨pre, post, rfl, rfl⟩ := h
  exact ⟨pre ++ a, c ++ post, by simp, by simp⟩
theorem cntL_app : ∀ l m : List Nd, cntL (l ++ m) = cntL l + cntL m
  | [], m => by rw [List.nil_append, cntL, Nat.zero_add]
  | x :: l, m => by rw [List.cons_append, cntL, cntL, cntL_app l m]; omega
theorem cntL_take {l : List Nd} {i : Nat} (h : i < l.length) : cntL (l.take (i + 1)) = cntL (l.take i) + (1 + cntL l[i].kids) := by
  rw [List.take_succ_eq_append_getElem h, cntL_app, cntL, cntL, cntN_eq]; omega
theorem cntL_le (l : List Nd) (i : Nat) : cntL (l.take i) ≤ cntL l := by
  have : cntL l = cntL (l.take i) + cntL (l.drop i) := by rw [← cntL_app, List.take_append_drop]
  omega
theorem Seg.at_ {L l : List Nd} {n i : Nat} (h : Seg L n (allL l)) (hi : i < l.length) : Seg L (n + cntL (l.take i)) (l[i] :: allL l[i].kids) := by
  have e : allL l = allL (l.take i) ++ ((l[i] :: allL l[i].kids) ++ allL (l.drop (i + 1))) := by
    have e2 : allL (l.take (i + 1)) = allL (l.take i) ++ l[i] :: allL l[i].kids := by rw [List.take_succ_eq_append_getElem hi, allL_app, allL, allN_eq, allL, List.append_nil]
    rw [← List.append_assoc, ← e2, ← allL_app, List.take_append_drop]
  rw [e] at h
  rw [← allL_len _ (l.take i) (Nat.le_refl _)]
  exact h.sub
theorem Seg.tail {L l : List Nd} {x : Nd} {n : Nat} (h : Seg L n (x :: l)) : Seg L (n + 1) l := by
  obtain ⟨pre, post, rfl, rfl⟩ := h
  exact ⟨pre ++ [x], post, by simp, by simp⟩
set_option maxRecDepth 100000 in
set_option maxHeartbeats 8000000 in
theorem walk_any (k : Nat) : ∀ (xs : List Nd) (A AL : Option Addr) (c cL P Q n stop : Nat) (L : List NE) (w : World), cntL xs ≤ k → NdsAt w (Lo P) A xs → xs.length ≤ c → c ≤ 9223372036854775807 → WsI w P Q AL cL L n stop → n ≤ stop → stop ≤ L.length → L.length ≤ 10000000 → Seg (L.map fun x => x.1) n (allL xs) →
    Calls Tryz.prog 48 #[.slice A xs.length c, .func (.func 22) #[] #[.pointer (some ⟨Q + 1, 0, none⟩), .pointer (some ⟨Q, 0, none⟩), .pointer (some ⟨P, 0, none⟩), .pointer (some ⟨Q + 2, 0, none⟩)]] w
      fun e w' => e = .returned (.bool (decide (n + cntL xs ≤ stop))) ∧ WsI w' P Q AL cL L (min (n + cntL xs) (stop + 1)) stop ∧ OvQ Q w w' := by
  induction k using Nat.strongRecOn with
  | _ k ih =>
    intro xs A AL c cL P Q n stop L w hk h hc hcc hw hns hsL hL hsg
    have H1 := Lib.hid h
    have HW0 := Lib.hid hw
    have hPQ := hw.lt
    have hPw := lt_of_blk hw.l
    have hQw := lt_of_blk hw.s
    have HSG := Lib.hid hsg
    clear h hw hsg
    go_enter Tryz.func48, Tryz.ntmps48
    go_wp2_with fail
    go_loopw [9] (fun v wr => ∃ i : Nat, i ≤ xs.length ∧ v = .int .i64 (i : Int) ∧ n + cntL (xs.take i) ≤ stop ∧ Hid (WsI wr P Q AL cL L (n + cntL (xs.take i)) stop) ∧ Hid (OvQ Q w wr)) (fun v _ => xs.length - (intOf v).toNat)
    case atStart => exact ⟨0, Nat.zero_le _, rfl, by simpa [cntL] using hns, by simpa [cntL] using HW0, Lib.hid (OvQ.refl _ _)⟩
    case round =>
      obtain ⟨i, hi, rfl, hni, HW, HO⟩ := hrel
      by_cases hlt : i < xs.length
      case neg =>
        have hq : ¬ ((i : Int) < (xs.length : Int)) := by omega
        rw [List.take_of_length_le (by omega)] at hni HW
        have HW2 := HW
        go_wp2_with fail
        go_ret
        refine ⟨?_, ?_, HO.out⟩
        · simp []
        · rw [Nat.min_eq_left (by omega)]; exact HW2.out
      have hq : (i : Int) < (xs.length : Int) := by omega
      have hbP : Below P w wr := HO.out.below (Nat.le_of_lt hPw) (Nat.le_of_lt hPQ)
      have hN1 := (H1.out.below hbP (Nat.le_refl _)).at_ hlt
      obtain ⟨b, o, rfl, hb, Ak, ck, An, cn, d0, d1, d2, d3, d4, d5, g1, g2, g3, g4, g5, g6, _, _⟩ := hN1
      have hb : b < P := hb
      have hbw : b < wr.heap.size := Nat.lt_trans hb (lt_of_blk HW.out.l)
      have hck := cnt_kid hlt
      have hct := cntL_take hlt
      have hle := cntL_le xs (i + 1)
      have hs1 := HSG.out.at_ hlt
      obtain ⟨m, hm⟩ : ∃ m, n + cntL (xs.take i) = m := ⟨_, rfl⟩
      rw [hm] at hs1 hni HW
      have hmn : n + cntL (xs.take (i + 1)) = m + (1 + cntL xs[i].kids) := by omega
      have HT := Lib.hid (show n + cntL (xs.take (i + 1)) = m + (1 + cntL xs[i].kids) by omega)
      have hge : m + (1 + cntL xs[i].kids) ≤ n + cntL xs := by omega
      have hmL : m < L.length := by
        have := hs1.head
        have h2 := (List.getElem?_eq_some_iff.1 this).1
        simpa using h2
      have hLm : L[m].1 = xs[i] := by
        have := hs1.head
        rw [List.getElem?_map, List.getElem?_eq_getElem hmL] at this
        simpa using this
      have hs2 := hs1.tail
      obtain ⟨W1, hW1⟩ : ∃ W1, wr.alloc (.cells #[.int .i64 xs[i].kd, .string (mkB xs[i].nm), .int .i64 xs[i].nu, .slice Ak xs[i].kids.length ck, .slice An xs[i].ns.length cn, .int .i64 xs[i].at_] 47) = W1 := ⟨_, rfl⟩
      have hb1 : Below wr.heap.size wr W1 := by rw [← hW1]; exact (Below.refl _ _).alloc (Nat.le_refl _) _
      obtain ⟨X, hX⟩ : ∃ X, wr.heap.size = X := ⟨_, rfl⟩
      have hx1 : W1.heap[X]? = some (.cells #[.int .i64 xs[i].kd, .string (mkB xs[i].nm), .int .i64 xs[i].nu, .slice Ak xs[i].kids.length ck, .slice An xs[i].ns.length cn, .int .i64 xs[i].at_] 47 (0, 0)) := by
        rw [← hW1, ← hX]; exact heap_alloc_new wr _
      have hsee := see_any xs[i] (.slice Ak xs[i].kids.length ck) (.slice An xs[i].ns.length cn) P Q AL cL L m stop W1 (HW.out.below hb1) hmL hLm hL
      have HRC : Hid (∀ w', OvQ Q W1 w' → WsI w' P Q AL cL L (m + 1) stop → m + 1 ≤ stop → Calls Tryz.prog 48 #[.slice Ak xs[i].kids.length ck, .func (.func 22) #[] #[.pointer (some ⟨Q + 1, 0, none⟩), .pointer (some ⟨Q, 0, none⟩), .pointer (some ⟨P, 0, none⟩), .pointer (some ⟨Q + 2, 0, none⟩)]] w' fun e w2 => e = .returned (.bool (decide (m + 1 + cntL xs[i].kids ≤ stop))) ∧ WsI w2 P Q AL cL L (min (m + 1 + cntL xs[i].kids) (stop + 1)) stop ∧ OvQ Q w' w2) :=
        Lib.hid (fun w' ho hw2 hms => ih (cntL xs[i].kids) (by omega) xs[i].kids Ak AL ck cL P Q (m + 1) stop L w' (Nat.le_refl _) (g6.below ((hb1.mono (Nat.le_of_lt (lt_of_blk HW.out.l))).trans (ho.below (Nat.le_trans (Nat.le_of_lt (lt_of_blk HW.out.l)) hb1.size) (Nat.le_of_lt hPQ))) (Nat.le_refl _)) g1 g3 hw2 hms hsL hL hs2)
      clear ih g5 g6 hck hct hle hs1 hs2 hLm hmn hbP
      generalize xs[i] = x at *
      have HXX := Lib.hid (show X ≠ Q ∧ X ≠ Q + 1 by have := lt_of_blk HW.out.s; omega)
      go_upto_region 4 with fail
      try simp only [hW1, hX]
      have HX := Lib.hid hX
      have HO1 := Lib.hid (HO.out.trans (OvQ.of_below hb1))
      clear hW1 hX hb1 d0 d1 d2 d3 d4 d5 hbw
      have f1 := cells6T hx1
      have l1 := lt_of_blk hx1
      by_cases hst : m + 1 ≤ stop
      case neg =>
        have hd : decide (m + 1 ≤ stop) = false := by simp [hst]
        rw [hd] at hsee
        go_wp2_with (go_at_call 22; refine hsee.mono ?_; rintro e w2 ⟨rfl, hw2, ho2⟩; clear hsee; have HW2 := Lib.hid hw2; have HO2 := Lib.hid ho2; clear hw2 ho2)
        go_ret
        refine ⟨?_, ?_, HO1.out.trans HO2.out⟩
        · rw [show decide (n + cntL xs ≤ stop) = false by simp; omega]; rfl
        · rw [show min (n + cntL xs) (stop + 1) = m + 1 by omega]; exact HW2.out
      have hd : decide (m + 1 ≤ stop) = true := by simp [hst]
      rw [hd] at hsee
      by_cases hkt : m + 1 + cntL x.kids ≤ stop
      case neg =>
        have hd2 : decide (m + 1 + cntL x.kids ≤ stop) = false := by simp; omega
        go_wp2_with (first
          | (go_at_call 22; refine hsee.mono ?_; rintro e w2 ⟨rfl, hw2, ho2⟩; clear hsee
             have hx2 := (ho2.block X l1 HXX.out.1 HXX.out.2).trans hx1
             have f2 := cells6T hx2
             have l2 := lt_of_blk hx2
             have hwk := HRC.out w2 ho2 hw2 hst
             rw [hd2] at hwk
             have HO2 := Lib.hid ho2
             clear hw2 ho2 f1 l1 hx2)
          | (go_at_call 48; refine hwk.mono ?_; rintro e w3 ⟨rfl, hw3, ho3⟩; clear hwk; have HW3 := Lib.hid hw3; have HO3 := Lib.hid ho3; clear hw3 ho3))
        go_ret
        refine ⟨?_, ?_, HO1.out.trans (HO2.out.trans HO3.out)⟩
        · rw [show decide (n + cntL xs ≤ stop) = false by simp; omega]; rfl
        · rw [show min (n + cntL xs) (stop + 1) = min (m + 1 + cntL x.kids) (stop + 1) by omega]; exact HW3.out
      case pos =>
        have hd2 : decide (m + 1 + cntL x.kids ≤ stop) = true := by simp; omega
        go_wp2_with (first
          | (go_at_call 22; refine hsee.mono ?_; rintro e w2 ⟨rfl, hw2, ho2⟩; clear hsee
             have hx2 := (ho2.block X l1 HXX.out.1 HXX.out.2).trans hx1
             have f2 := cells6T hx2
             have l2 := lt_of_blk hx2
             have hwk := HRC.out w2 ho2 hw2 hst
             rw [hd2] at hwk
             have HO2 := Lib.hid ho2
             clear hw2 ho2 f1 l1 hx2)
          | (go_at_call 48; refine hwk.mono ?_; rintro e w3 ⟨rfl, hw3, ho3⟩; clear hwk; have HW3 := Lib.hid hw3; have HO3 := Lib.hid ho3; clear hw3 ho3))
        go_roundw
        case rel => exact ⟨i + 1, by omega, by simp, by rw [HT.out]; omega, Lib.hid (by rw [HT.out, show m + (1 + cntL x.kids) = min (m + 1 + cntL x.kids) (stop + 1) by omega]; exact HW3.out), Lib.hid (HO1.out.trans (HO2.out.trans HO3.out))⟩
        case measure => simp [intOf]; omega
end Go.Proofs.YtfcceojfcmgmlaaGreatDoor.Fl

/-
  All nodes gone through: the program's Walk.
-/
namespace Go.Proofs.YtfcceojfcmgmlaaGreatDoor.Fl
open Go.RowKit Go.Shelf

set_option maxRecDepth 100000 in
set_option maxHeartbeats 8000000 in
theorem walkM_any (m : Me) (v : Value) (AL : Option Addr) (cL P Q stop : Nat) (L : List NE) (w : World) (h : MeAt w (Lo P) v m) (hw : WsI w P Q AL cL L 0 stop) (hsL : stop ≤ L.length) (hL : L.length ≤ 10000000) (hsg : (L.map fun x => x.1) = allL m.bd) :
    Calls Tryz.prog 21 #[v, .func (.func 22) #[] #[.pointer (some ⟨Q + 1, 0, none⟩), .pointer (some ⟨Q, 0, none⟩), .pointer (some ⟨P, 0, none⟩), .pointer (some ⟨Q + 2, 0, none⟩)]] w
      fun e w' => e = .returned (.bool (decide (cntL m.bd ≤ stop))) ∧ WsI w' P Q AL cL L (min (cntL m.bd) (stop + 1)) stop ∧ OvQ Q w w' := by
  obtain ⟨Ap, cp, At, ct, Ab, cb, rfl, h1, h2, h3, h4, h5, h6, s1, s2, s3, n1, n2, n3⟩ := h.ex
  clear h s1 s2 n1 n2 n3
  obtain ⟨W1, hW1⟩ : ∃ W, w.alloc (.cells #[.string (mkB m.nm), .slice Ap m.ps.length cp, .slice At m.ts.length ct, .int .i64 m.pr, .slice Ab m.bd.length cb, .int .i64 m.at_] 30) = W := ⟨_, rfl⟩
  obtain ⟨X, hX⟩ : ∃ X, w.heap.size = X := ⟨_, rfl⟩
  have hb1 : Below w.heap.size w W1 := by rw [← hW1]; exact (Below.refl _ _).alloc (Nat.le_refl _) _
  have hx1 : W1.heap[X]? = some (.cells #[.string (mkB m.nm), .slice Ap m.ps.length cp, .slice At m.ts.length ct, .int .i64 m.pr, .slice Ab m.bd.length cb, .int .i64 m.at_] 30 (0, 0)) := by
    rw [← hW1, ← hX]; exact heap_alloc_new w _
  have hwk := walk_any (cntL m.bd) m.bd Ab AL cb cL P Q 0 stop L W1 (Nat.le_refl _) (s3.below (hb1.mono (Nat.le_of_lt (lt_of_blk hw.l))) (Nat.le_refl _)) h5 h6 (hw.below hb1) (Nat.zero_le _) hsL hL ⟨[], [], by rw [hsg]; simp, rfl⟩
  rw [Nat.zero_add] at hwk
  have HO1 := Lib.hid (OvQ.of_below (R := Q) hb1)
  go_enter Tryz.func21, Tryz.ntmps21
  go_upto_region 1 with fail
  try simp only [hW1, hX]
  clear hW1 hX hb1 s3 hw
  have f1 := cells6T hx1
  have l1 := lt_of_blk hx1
  have hn : ∀ (w' : World), (binOp .eql 50 (.func (.func 22) #[] #[.pointer (some ⟨Q + 1, 0, none⟩), .pointer (some ⟨Q, 0, none⟩), .pointer (some ⟨P, 0, none⟩), .pointer (some ⟨Q + 2, 0, none⟩)]) .nilFunc).run Tryz.prog w' = .ok (.bool false) w' := by
    intro w'
    obtain ⟨d, hd⟩ : ∃ d, Op.maxDepth = d + 1 := ⟨_, rfl⟩
    simp only [binOp, Op.equal, hd]
    unfold Op.equalIn
    simp [go_sem]
  go_wp2_with (go_at_call 48; refine hwk.mono ?_; rintro e w3 ⟨rfl, hw3, ho3⟩; clear hwk; have HW3 := Lib.hid hw3; have HO3 := Lib.hid ho3; clear hw3 ho3)
  go_ret
  exact ⟨rfl, HW3.out, HO1.out.trans HO3.out⟩
end Go.Proofs.YtfcceojfcmgmlaaGreatDoor.Fl

/-
  A node's place turned: nothing else is.
-/
namespace Go.Proofs.YtfcceojfcmgmlaaGreatDoor.Fl
open Go.RowKit Go.Shelf

def withAt (x : Nd) (a : Int) : Nd := .mk x.kd x.nm x.nu x.kids x.ns a
theorem sameN_withAt (x y : Nd) (a : Int) : sameN (withAt x a) y = sameN x y := by rw [sameN_eq, sameN_eq]; rfl
theorem sameL_withAt (x : Nd) (l m : List Nd) (a : Int) : sameL (withAt x a :: l) m = sameL (x :: l) m := by
  cases m with
  | nil => rfl
  | cons y m => rw [sameL, sameL, sameN_withAt]
/-- a row's first node at another place -/
theorem own_withAt {w : World} {base g c : Nat} {x : NE} {es : List NE} (a : Int) (h : OwnP w base (.slice (some ⟨g, 0, none⟩) (x :: es).length c) (x :: es)) (he : ∀ y ∈ x :: es, Ent w (Nx 0 base w.heap.size (.slice (some ⟨g, 0, none⟩) (x :: es).length c)) y) :
    OwnP (w.setCell ⟨g, 5, none⟩ (.int .i64 a)) base (.slice (some ⟨g, 0, none⟩) (x :: es).length c) ((withAt x.1 a, x.2) :: es) ∧
    (∀ y ∈ (withAt x.1 a, x.2) :: es, Ent (w.setCell ⟨g, 5, none⟩ (.int .i64 a)) (Nx 0 base w.heap.size (.slice (some ⟨g, 0, none⟩) (x :: es).length c)) y) ∧ w.heap.size = (w.setCell ⟨g, 5, none⟩ (.int .i64 a)).heap.size := by
  obtain ⟨h1, _⟩ := World.ownsRow.stored h 5 (.int .i64 a)
  have hk : ∀ (y : NE), Ent w (Nx 0 base w.heap.size (.slice (some ⟨g, 0, none⟩) (x :: es).length c)) y → Ent (w.setCell ⟨g, 5, none⟩ (.int .i64 a)) (Nx 0 base w.heap.size (.slice (some ⟨g, 0, none⟩) (x :: es).length c)) y := fun y hy => hy.keep fun k hk => by
    refine ⟨Below.heap_setCell w ⟨g, 5, none⟩ _ k ?_, hk⟩
    rcases hk with hk | ⟨_, _, hk⟩
    · exact absurd hk (Nat.not_lt_zero k)
    · intro e
      exact hk (by rw [e]; rfl)
  refine ⟨h1, fun y hy => ?_, by simp [World.setCell]⟩
  rcases List.mem_cons.1 hy with rfl | hy
  · have := hk x (he x (List.mem_cons_self ..))
    exact ⟨this.l1, this.l2, this.c1, this.c2, this.m1, this.m2, this.ks, this.ns, this.n1, this.n2⟩
  · exact hk y (he y (List.mem_cons_of_mem _ hy))
mutual
theorem fewN_ns : ∀ (x : Nd) (n d : Nat), ∀ y ∈ allN (fewN x n d).1, y.ns.length ≤ 9
  | .mk k nm nu ks ns a, n, d, y, hy => by
    rw [fewN, allN_eq] at hy
    rcases List.mem_cons.1 hy with rfl | hy
    · show (ns.take 9).length ≤ 9
      rw [List.length_take]; omega
    · exact fewL_ns ks (n - 1) (d - 1) y hy
theorem fewL_ns : ∀ (l : List Nd) (n d : Nat), ∀ y ∈ allL (fewL l n d).1, y.ns.length ≤ 9
  | [], n, d, y, hy => by rw [fewL] at hy; cases hy
  | x :: l, n, d, y, hy => by
    by_cases h : n = 0 ∨ d = 0
    · rw [fewL, if_pos h] at hy; cases hy
    · rw [fewL, if_neg h] at hy
      rcases List.mem_append.1 hy with hy | hy
      · exact fewN_ns x n d y hy
      · exact fewL_ns l (fewN x n d).2 d y hy
end
theorem cutM_small (m : Me) : (cutM m).ps.length ≤ 15 ∧ (cutM m).ts.length ≤ 15 ∧ cntL (cutM m).bd ≤ 200 ∧ ∀ y ∈ allL (cutM m).bd, y.ns.length ≤ 9 := by
  refine ⟨?_, ?_, ?_, fewL_ns m.bd 200 60⟩
  · show (m.ps.take 15).length ≤ 15
    rw [List.length_take]; omega
  · show (m.ts.take 15).length ≤ 15
    rw [List.length_take]; omega
  · have := fewL_cnt m.bd 200 60
    show cntL (fewL m.bd 200 60).1 ≤ 200
    omega
theorem sameM_refl (m : Me) : sameM m m = true := by unfold sameM; rw [sameL_refl]; simp
theorem sameM_withAt (m : Me) (x : Nd) (l : List Nd) (a : Int) (h : m.bd = x :: l) : sameM { m with bd := withAt x a :: l } m = true := by
  unfold sameM
  show (m.nm == m.nm && (m.pr == m.pr && (m.ps == m.ps && (m.ts == m.ts && sameL (withAt x a :: l) m.bd)))) = true
  rw [sameL_withAt, ← h, sameL_refl]; simp
end Go.Proofs.YtfcceojfcmgmlaaGreatDoor.Fl

/-
  A method of the document's that came in, in memory.
-/
namespace Go.Proofs.YtfcceojfcmgmlaaGreatDoor.Fl
open Go.RowKit Go.ChangeShapes Go.WideShapes

set_option maxRecDepth 100000 in
theorem open_names {H : Type} {enc : TypeId × Value → H} {w : World} {base n : Nat} {spare : Nat → Bool} {held : Bool} {v : Value} {y : DataW H × List MemPlace}
    (h : DataW.trod enc Tryz.prog w base spare held n 22 [v] = some y) :
    ∃ (A : Option Addr) (c : Nat) (ts : List (List UInt8)), v = .slice A ts.length c ∧ ts.length ≤ c ∧ c ≤ 9223372036854775807 ∧ SrAt w (Lo w.heap.size) A ts ∧ (A = none → ts = []) := by
  rcases Deep.open_strs Tryz.underlying22 Tryz.underlying9 (by kernel_rfl) h with ⟨hcs, _⟩ | ⟨a, l, c, m, Sx, hcs, hb, hl, hm, hmm, hd, hx⟩
  · injection hcs with hcs
    exact ⟨none, 0, [], hcs, Nat.le_refl _, by omega, .inl rfl, fun _ => rfl⟩
  · injection hcs with hcs
    refine ⟨some a, c, (List.range l).map (fun i => sb (Sx i)), by rw [hcs]; simp, by simpa using hl, by unfold maxLen at hm; omega, ?_, fun h => (by cases h)⟩
    by_cases h0 : l = 0
    · subst h0; exact .inl rfl
    obtain ⟨b, off, spot⟩ := a
    have hlm : l ≤ m := by rw [hmm]; split <;> omega
    have hspot : spot = none := by
      have e := World.cell?_spot (hx 0 (by omega)).1
      simpa [Addr.add] using e
    subst hspot
    have pl : ∀ x n : Nat, (⟨b, x, none⟩ : Addr).add n = ⟨b, x + n, none⟩ := fun x n => by unfold Addr.add; split <;> simp_all
    have hx2 : ∀ i, i < m → w.cell? ⟨b, off + i, none⟩ = some (.string (Sx i)) := fun i hi => by rw [← pl]; exact (hx i hi).1
    refine .inr ⟨b, off, rfl, World.block_lt_of_cell? w _ (hx2 0 (by omega)), fun j v hj => ?_⟩
    have hjl : j < l := by
      have := (List.getElem?_eq_some_iff.1 hj).1
      simpa [cs_] using this
    have hv : v = .string (Sx j) := by
      unfold cs_ at hj
      rw [List.getElem?_map, List.getElem?_map, List.getElem?_range hjl] at hj
      simp only [Option.map_some, Option.some.injEq] at hj
      exact hj.symm.trans (congrArg Value.string (mk_sb _))
    rw [hv]
    exact hx2 j (by omega)
set_option maxRecDepth 100000 in
theorem open_nodes {H : Type} {enc : TypeId × Value → H} {w : World} {base : Nat} {spare : Nat → Bool} {held : Bool} (z : Nat) : ∀ {n : Nat} {v : Value} {y : DataW H × List MemPlace}, SizeOf.sizeOf y.1 ≤ z →
    DataW.trod enc Tryz.prog w base spare held n 23 [v] = some y →
    ∃ (A : Option Addr) (c : Nat) (xs : List Nd), v = .slice A xs.length c ∧ xs.length ≤ c ∧ c ≤ 9223372036854775807 ∧ NdsAt w (Lo w.heap.size) A xs ∧ (A = none → xs = []) := by
  induction z using Nat.strongRecOn with
  | _ z ih =>
    intro n v y hz h
    rcases Deep.open_slice Tryz.underlying23 h with ⟨hcs, _⟩ | ⟨a, l, c, m, n, D, Pl, hcs, hb, hl, hm, hmm, hdd, hx⟩
    · injection hcs with hcs
      exact ⟨none, 0, [], hcs, Nat.le_refl _, by omega, .inl rfl, fun _ => rfl⟩
    · injection hcs with hcs
      have ce : Tryz.prog.cellsOf 49 = 6 := by kernel_rfl
      have c1 : Tryz.prog.cellsOf 9 = 1 := by kernel_rfl
      have c2 : Tryz.prog.cellsOf 22 = 1 := by kernel_rfl
      have c0 : Tryz.prog.cellsOf 3 = 1 := by kernel_rfl
      have c3 : Tryz.prog.cellsOf 2 = 1 := by kernel_rfl
      have c4 : Tryz.prog.cellsOf 23 = 1 := by kernel_rfl
      have hd1 := congrArg Prod.fst hdd
      simp only at hd1
      obtain ⟨b, off, spot⟩ := a
      have hlm : l ≤ m := by rw [hmm]; split <;> omega
      by_cases h0 : l = 0
      · subst h0
        exact ⟨some ⟨b, off, spot⟩, c, [], hcs, Nat.zero_le _, by unfold maxLen at hm; omega, .inl rfl, fun _ => rfl⟩
      have hspot : spot = none := by
        obtain ⟨cs0, h10, _⟩ := hx 0 (by omega)
        rw [ce] at h10
        obtain ⟨_, hl0, hc0⟩ := World.cells?_some h10
        have e1 := hc0 0 (by omega)
        rw [List.getElem?_eq_getElem (by omega)] at e1
        have e := World.cell?_spot e1
        simpa [Addr.add] using e
      subst hspot
      have hrow : ∀ k, k < l → ∃ x : Nd, NdAt w (Lo w.heap.size) b (off + k * 6) x := by
        intro k hk
        have hkm : k < m := by omega
        obtain ⟨cs', h1, h2⟩ := hx k hkm
        rw [ce] at h1
        obtain ⟨_, hlen, hcell⟩ := World.cells?_some h1
        obtain ⟨xs, q, hq, hxy, _, hxl, hfl⟩ := DataW.trod_struct Tryz.underlying49 h2
        match xs, hxl, cs', hlen with
        | [y0, y1, y2, y3, y4, y5], _, [v0, v1, v2, v3, v4, v5], _ =>
          have g0 := hfl 0 _ rfl
          have g1 := hfl 1 _ rfl
          have g2 := hfl 2 _ rfl
          have g3 := hfl 3 _ rfl
          have g4 := hfl 4 _ rfl
          have g5 := hfl 5 _ rfl
          simp [c0, c1, c2, c3, c4] at g0 g1 g2 g3 g4 g5
          have hD := congrArg Prod.fst hxy
          simp only [List.map_cons, List.map_nil] at hD
          have hsz : SizeOf.sizeOf y3.1 < z := by
            have e1 : SizeOf.sizeOf y3.1 < SizeOf.sizeOf (D k) := by rw [hD]; simp; omega
            have e2 : SizeOf.sizeOf (D k) < SizeOf.sizeOf y.1 := by
              rw [hd1]
              have := List.sizeOf_lt_of_mem (List.mem_map.2 ⟨k, List.mem_range.2 hk, rfl⟩ : D k ∈ (List.range l).map D)
              simp; omega
            omega
          obtain ⟨j0, hj0, _, _⟩ := DataW.trod_int Tryz.underlying3 g0
          obtain ⟨s1, hs1, _, _⟩ := DataW.trod_string Tryz.underlying9 g1
          obtain ⟨j2, hj2, _, _⟩ := DataW.trod_int Tryz.underlying2 g2
          obtain ⟨Ak, ck, ks, hks, k1, k2, k3, k4⟩ := ih (SizeOf.sizeOf y3.1) hsz (Nat.le_refl _) g3
          obtain ⟨An, cn, ts, hts, t1, t2, t3, t4⟩ := open_names g4
          obtain ⟨j5, hj5, _, _⟩ := DataW.trod_int Tryz.underlying3 g5
          simp at hj0 hs1 hj2 hj5
          subst hj0 hs1 hj2 hj5 hks hts
          refine ⟨.mk j0 (sb s1) j2 ks ts j5, ?_⟩
          have pl : ∀ x n : Nat, (⟨b, x, none⟩ : Addr).add n = ⟨b, x + n, none⟩ := fun x n => by unfold Addr.add; split <;> simp_all
          have e0 := hcell 0 (by omega)
          have e1 := hcell 1 (by omega)
          have e2 := hcell 2 (by omega)
          have e3 := hcell 3 (by omega)
          have e4 := hcell 4 (by omega)
          have e5 := hcell 5 (by omega)
          simp only [pl, Nat.add_zero] at e0 e1 e2 e3 e4 e5
          have hbw := World.block_lt_of_cell? w _ e0
          have e1 : w.cell? ⟨b, off + k * 6 + 1, none⟩ = some (.string (mkB (sb s1))) := e1.trans (congrArg (fun s => some (Value.string s)) (mk_sb s1).symm)
          by_cases hk0 : ks = []
          · exact .mk Ak ck An cn 0 0 hbw e0 e1 e2 e3 e4 e5 k1 t1 k2 t2 t3 (fun h => absurd hk0 h) (fun i hi => by rw [hk0] at hi; cases hi) k4 t4
          · rcases k3 with h | ⟨bk, ok, z1, z2, z3⟩
            · exact absurd h hk0
            · exact .mk Ak ck An cn bk ok hbw e0 e1 e2 e3 e4 e5 k1 t1 k2 t2 t3 (fun _ => ⟨z1, z2⟩) z3 k4 t4
      have hf : ∃ f : Nat → Nd, ∀ k, k < l → NdAt w (Lo w.heap.size) b (off + k * 6) (f k) :=
        ⟨fun k => if hk : k < l then (hrow k hk).choose else .mk 0 [] 0 [] [] 0, fun k hk => by show NdAt w _ b _ (dite _ _ _); rw [dif_pos hk]; exact (hrow k hk).choose_spec⟩
      obtain ⟨f, hf⟩ := hf
      have hb0 : b < w.heap.size := by
        have := hf 0 (by omega)
        generalize f 0 = q at this
        cases this with
        | mk _ _ _ _ _ _ hb => exact hb
      refine ⟨some ⟨b, off, none⟩, c, (List.range l).map f, by rw [hcs]; simp, by simpa using hl, by unfold maxLen at hm; omega, .inr ⟨b, off, rfl, hb0, fun i hi => ?_⟩, fun h => by cases h⟩
      have hi : i < l := by simpa using hi
      have : ((List.range l).map f)[i]'(by simpa using hi) = f i := by simp
      rw [this]
      exact hf i hi
set_option maxRecDepth 100000 in
theorem open_method {H : Type} {enc : TypeId × Value → H} {w : World} {base b0 : Nat} {spare : Nat → Bool} {held : Bool} {r : Reach} {v : Value} {d : DataW H} {p : List MemPlace}
    (hv : Value.okWide Tryz.prog w r b0 25 v) (h : DataW.Trod enc Tryz.prog w base spare held 25 v d p) : ∃ m : Me, MeAt w (Lo w.heap.size) v m := by
  have kg : Tryz.prog.cellsOf 25 = 6 := by kernel_rfl
  have c1 : Tryz.prog.cellsOf 9 = 1 := by kernel_rfl
  have c2 : Tryz.prog.cellsOf 22 = 1 := by kernel_rfl
  have c0 : Tryz.prog.cellsOf 3 = 1 := by kernel_rfl
  have c4 : Tryz.prog.cellsOf 23 = 1 := by kernel_rfl
  obtain ⟨cs, rfl, hsz⟩ := okWide_struct Tryz.underlying25 hv
  rw [kg] at hsz
  obtain ⟨cs⟩ := cs
  obtain ⟨fuel, hf⟩ := h
  obtain ⟨xs, n, _, hxy, hl, hxl, hfl⟩ := DataW.trod_struct Tryz.underlying25 hf
  match xs, hxl, cs, hsz with
  | [y0, y1, y2, y3, y4, y5], _, [v0, v1, v2, v3, v4, v5], _ =>
    have g0 := hfl 0 _ rfl
    have g1 := hfl 1 _ rfl
    have g2 := hfl 2 _ rfl
    have g3 := hfl 3 _ rfl
    have g4 := hfl 4 _ rfl
    have g5 := hfl 5 _ rfl
    simp [c0, c1, c2, c4] at g0 g1 g2 g3 g4 g5
    obtain ⟨s0, hs0, _, _⟩ := DataW.trod_string Tryz.underlying9 g0
    obtain ⟨Ap, cp, ps, rfl, p1, p2, p3, p4⟩ := open_names g1
    obtain ⟨At, ct, ts, rfl, t1, t2, t3, t4⟩ := open_names g2
    obtain ⟨j3, hj3, _, _⟩ := DataW.trod_int Tryz.underlying3 g3
    obtain ⟨Ab, cb, bd, rfl, n1, n2, n3, n4⟩ := open_nodes _ (Nat.le_refl _) g4
    obtain ⟨j5, hj5, _, _⟩ := DataW.trod_int Tryz.underlying3 g5
    cases hs0
    cases hj3
    cases hj5
    exact ⟨⟨sb s0, ps, ts, j3, bd, j5⟩, ⟨Ap, cp, At, ct, Ab, cb, by rw [show mkB (sb s0) = s0 from mk_sb s0], p1, p2, t1, t2, n1, n2, p3, t3, n3, p4, t4, n4⟩⟩
end Go.Proofs.YtfcceojfcmgmlaaGreatDoor.Fl
