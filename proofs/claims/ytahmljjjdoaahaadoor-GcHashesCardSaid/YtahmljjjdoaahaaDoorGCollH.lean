/-
  Collect of memory whose objects have numbers of their own too.
-/
import Derived.Test.YtahmljjjdoaahaaDoorPGColl
import Derived.Test.YtahmljjjdoaahaaDoorLoadH
namespace Go.Proofs.YtahmljjjdoaahaaDoor.Fl
open Go.RowKit

section
variable {os : List Ob}
theorem dist_at (h : Dist os (ixs os os.length)) {i j : Nat} (hij : i < j) (hj : j < os.length) : (os[i]'(Nat.lt_trans hij hj)).hash = 0 ∨ (os[i]'(Nat.lt_trans hij hj)).hash ≠ os[j].hash := by
  unfold Dist ixs at h
  rw [List.pairwise_filterMap] at h
  have h1 := List.pairwise_iff_getElem.1 h i j (by simp; omega) (by simpa using hj) hij
  simp only [List.getElem_range] at h1
  exact h1 ⟨i, Nat.lt_trans hij hj⟩ (by simp [Nat.lt_trans hij hj]) ⟨j, hj⟩ (by simp [hj])
theorem dist_of (h : ∀ (i j : Nat) (hij : i < j) (hj : j < os.length), (os[i]'(Nat.lt_trans hij hj)).hash = 0 ∨ (os[i]'(Nat.lt_trans hij hj)).hash ≠ os[j].hash) : Dist os (ixs os os.length) := by
  unfold Dist ixs
  rw [List.pairwise_filterMap]
  refine List.pairwise_lt_range.imp ?_
  intro a b hab x hx y hy
  split at hx
  · split at hy
    · next h1 h2 =>
      injection hx with hx
      injection hy with hy
      subst hx hy
      exact h a b hab h2
    · cases hy
  · cases hx
theorem dist_moved {fs : List Nat} {xs : List (Kx os fs)} (hst : Stays os fs xs) (h : Dist os (ixs os os.length)) : Dist (moved os (ksOf xs)) (ixs (moved os (ksOf xs)) (moved os (ksOf xs)).length) := by
  have hk := hst.ks
  have hg : ∀ (i : Nat) (hi : i < (moved os (ksOf xs)).length), ∃ (hi2 : i < xs.length), ((moved os (ksOf xs))[i]).hash = (os[(xs[i]).1]'(xs[i]).2.1).hash := fun i hi => by
    have hi2 : i < (ksOf xs).length := by rw [moved_len hk] at hi; exact hi
    have hm := moved_get hk hi2
    rw [List.getElem?_eq_getElem hi] at hm
    injection hm with hm
    refine ⟨by simpa [ksOf] using hi2, ?_⟩
    rw [hm]
    show (os[(ksOf xs)[i]]'_).hash = _
    simp [ksOf]
  refine dist_of fun i j hij hj => ?_
  obtain ⟨i2, e1⟩ := hg i (Nat.lt_trans hij hj)
  obtain ⟨j2, e2⟩ := hg j hj
  rw [e1, e2]
  have hup := List.pairwise_iff_getElem.1 hst.up i j i2 j2 hij
  exact dist_at h hup (xs[j]).2.1
end
structure CollH (base g size last : Nat) (os' : List Ob) (rs' : List Nat) (A' : Option Addr) (w w' : World) : Prop where
  obs : ∃ gc cap gb gb2 ws, ObsAt w' base g gc cap gb gb2 size last os' ws
  rd : Rd w' w'.heap.size A' (cw rs')
  nil : A' = none → rs'.length = 0
  ch : Ch2 g g w w'
def CollHPost (base g size last : Nat) (os' : List Ob) (rs' : List Nat) (w : World) (e : Ending) (w' : World) : Prop := ∃ A' c', e = .returned (.tuple #[.slice A' rs'.length c', .int .i64 0]) ∧ CollH base g size last os' rs' A' w w'
section
variable {base g gc cap gb gb2 size last : Nat} {os : List Ob} {ws fs : List Nat} {xs : List (Kx os fs)}
set_option maxRecDepth 100000 in
set_option maxHeartbeats 400000 in
theorem collecth_any {fs0 : List Nat} {S : Nat → List Nat × Nat} {T : Nat} (rs : List Nat) (A : Option Addr) (c : Nat) (w : World) (h : ObsAt w base g gc cap gb gb2 size last os ws) (he : EnvB w) (hB : base ≤ w.heap.size) (h16 : 16 ≤ size) (hr : Rd w w.heap.size A (cw rs)) (hA : A = none → rs.length = 0) (hrs : ∀ x ∈ rs, x < 18446744073709551616) (hrl : rs.length ≤ 16777216)
    (hf : findL ws [] rs = some fs0) (hS : Waves (ldOf os) ws fs0 S T) (hfs : (S T).1 = fs) (hst : Stays os fs xs) (hcl : ClosedF os fs) (hrt : ∀ x ∈ rs, isW x → x ∈ fs)
    (hsm : (Lof os).length ≤ 400) (hpos : ∀ o ∈ os, 0 < o.xs.length) (hcn : ∀ o ∈ os, CleanO o) (hh : ∀ o ∈ os, o.hash ≤ last) (hla24 : last < 16777216) (hds : Dist os (ixs os os.length)) :
    Calls Tryd.prog 11 #[.pointer (some ⟨g, 0, none⟩), .slice A rs.length c] w (CollHPost base g size last (moved os (ksOf xs)) (rs.map (goal os (ksOf xs))) w) := by
  have hre := reach_any rs A c w h.graph h.heap hr hrs (by omega) hf hS
  rw [hfs] at hre
  clear hfs hf hS
  have hsm' := h.heap.small
  have hle := Lof_sub_le hst
  have hml := moved_len_le xs
  have hroom := h.heap.room
  have hsh : Shut os (ksOf xs) := fun k hk hk2 y hy hw => (hst.kept y).1 (hcl k hk ((hst.kept _).2 ⟨k, hk2, rfl⟩) y hy hw)
  have hmo := moved_ok hst.ks hsh h.ok (by omega)
  have HMc : Hid (∀ o ∈ moved os (ksOf xs), CleanO o) := Lib.hid fun o ho => by
    obtain ⟨k, hk, rfl⟩ := mem_moved ho
    exact turnO_clean (hcn _ (List.getElem_mem hk))
  have HMd : Hid (Dist (moved os (ksOf xs)) (ixs (moved os (ksOf xs)) (moved os (ksOf xs)).length)) := Lib.hid (dist_moved hst hds)
  have HLa := Lib.hid hla24
  clear hla24 hds
  have HMh : Hid (∀ o ∈ moved os (ksOf xs), o.hash ≤ last) := Lib.hid fun o ho => by
    obtain ⟨k, hk, rfl⟩ := mem_moved ho
    show os[k].hash ≤ last
    exact hh _ (List.getElem_mem hk)
  have HM := Lib.hid hmo
  have H := Lib.hid h
  have HE := Lib.hid he
  have HR := Lib.hid hr
  have HS := Lib.hid hst
  have HC := Lib.hid hcl
  have HP := Lib.hid hpos
  have HRt := Lib.hid hrt
  have HRs := Lib.hid hrs
  have HA := Lib.hid hA
  clear h he hr hst hcl hpos hrt hrs hcn hh hmo hsh hA
  go_enter Tryd.func11, Tryd.ntmps11
  go_wp2_with fail
  refine hre.mono ?_
  rintro e w1 ⟨sb, sb2, bs, rfl, hsb, hsb2, hBt, hbm, hgd, hb1⟩
  have hsum : sumC (cnOf os) fs = (flat (sub os (ksOf xs))).length := sum_kept HS.out.ks hgd.1 HS.out.kept
  have HO1 := Lib.hid (H.out.below hb1)
  have HE1 := Lib.hid (HE.out.below hb1)
  have HF1 : Hid (Found w1 sb size fs) := Lib.hid ⟨sb2, bs, hBt, hbm⟩
  have HB1 := Lib.hid hb1
  obtain ⟨n, hn⟩ : ∃ n, sumC (cnOf os) fs = n := ⟨_, rfl⟩
  rw [hn] at hsum ⊢
  have hn400 : n ≤ 400 := by have : (Lof (sub os (ksOf xs))).length = (flat (sub os (ksOf xs))).length + 2 := rfl; omega
  have hpl := plan_any w1 HO1.out HF1.out HE1.out HS.out hsm
  have HSum := Lib.hid hsum
  have HMl := Lib.hid hml
  clear hre hb1 hsb hsb2 hBt hbm hgd hn hsum hml
  go_wp2_with fail
  refine hpl.mono ?_
  rintro e w2 ⟨lk, gG, G, rfl, hL, hG, hGl, hgo, hlk, hgG, hb2⟩
  have HO2 := Lib.hid (HO1.out.below hb2)
  have HE2 := Lib.hid (HE1.out.below hb2)
  have HF2 := Lib.hid (HF1.out.below hb2)
  have HB2 := Lib.hid (HB1.out.trans (hb2.mono HB1.out.size))
  have HL := Lib.hid hL
  have HG := Lib.hid hG
  have HGl := Lib.hid hGl
  have HGo := Lib.hid hgo
  have hld := laid_any n G w1.heap.size w2 HO2.out HF2.out HE2.out HS.out HC.out hsm (by omega) HL.out HG.out HGl.out HGo.out HP.out
  have hce := cellsH_any w2 HO2.out.heap
  have hla := lastH_any w2 HO2.out.heap
  clear hpl hL hG hGl hgo hb2
  go_wp2_with (first
    | (go_at_call 29; (with_reducible refine hce.mono ?_); rintro e w' ⟨rfl, rfl⟩)
    | (go_at_call 9; (with_reducible refine hla.mono ?_); rintro e w' ⟨rfl, rfl⟩))
  refine hld.mono ?_
  rintro e w3 ⟨bl, cl, rfl, hOl, hb3⟩
  have HB3 := Lib.hid (HB2.out.trans (hb3.mono HB2.out.size))
  have hlo : Calls Tryd.prog 28 #[.int .i64 (size : Int), .int .u32 (last : Int), .slice (some ⟨bl, 0, none⟩) (flat (moved os (ksOf xs))).length cl] w3 (LoadHPost (moved os (ksOf xs)) size last w3) :=
    loadh_ok (last := last) (os := moved os (ksOf xs)) cl _ w3 h16 hsm' (by have := HMl.out; omega) (ownH_rd hOl) (fun h => by cases h) (fun x hx => by
      have h1 : x = 0 ∨ x ∈ flat (moved os (ksOf xs)) := by
        unfold Lof at hx
        simp only [List.mem_cons] at hx
        rcases hx with rfl | rfl | hx
        · exact .inl rfl
        · exact .inl rfl
        · exact .inr hx
      rcases h1 with rfl | hx
      · decide
      · unfold flat at hx
        obtain ⟨o, ho, hxo⟩ := List.mem_flatMap.1 hx
        have hok := HM.out o ho
        unfold Ob.cells at hxo
        simp only [List.mem_cons] at hxo
        rcases hxo with rfl | rfl | hxo
        · exact hok.lt
        · exact (by have h9 := hErr_ok hok.ok; exact pk_lt (by omega) (by omega) (by omega))
        · exact hok.xlt _ hxo) HM.out HMc.out HMh.out HLa.out HMd.out
  have HL3 : Hid (GLook w3 lk g sb gG (Lof os).length) := Lib.hid ((hb3.block _ (lt_of_block HL.out)).trans HL.out)
  have HG3 := Lib.hid (HG.out.keep fun k cur hc => hb3.block k (lt_of_block hc))
  have HO3 := Lib.hid (HO2.out.below hb3)
  clear hld hce hla hb3 hOl HL HG HO2 HE2 HF2 HB2
  go_wp2_with fail
  refine hlo.mono ?_
  rintro e w4 ⟨g', gc', cap', gb', gb2', ws', rfl, hob4, hb4⟩
  have HOb4 := Lib.hid hob4
  have HO4 := Lib.hid (HO3.out.below hb4)
  have HB4 := Lib.hid (HB3.out.trans (hb4.mono HB3.out.size))
  have HL4 : Hid (GLook w4 lk g sb gG (Lof os).length) := Lib.hid ((hb4.block _ (lt_of_block HL3.out)).trans HL3.out)
  have HG4 := Lib.hid (HG3.out.keep fun k cur hc => hb4.block k (lt_of_block hc))
  have f' := cells4' hob4.heap.hd
  have f := cells4' HO4.out.heap.hd
  have HS3 : Hid (w1.heap.size ≤ w3.heap.size ∧ w.heap.size ≤ w1.heap.size) := Lib.hid ⟨by have h1 := lt_of_block HL3.out; omega, HB1.out.size⟩
  clear hlo hob4 hb4 HL3 HG3 HO3 HB3
  go_wp2_with fail
  obtain ⟨hone, hd5⟩ := copy_heap (size := size) (last := last) (gc := gc) (n := (Lof os).length) (c := cap) (gb := gb) HO4.out.heap.hd (.int .i64 (size : Int)) (.slice (some ⟨gc', 0, none⟩) (Lof (moved os (ksOf xs))).length cap') (.pointer (some ⟨gb', 0, none⟩)) (.int .u32 (last : Int))
  obtain ⟨W5, hW5⟩ : ∃ W5, ((((w4.setCell ⟨g, 0, none⟩ (.int .i64 (size : Int))).setCell ⟨g, 1, none⟩ (.slice (some ⟨gc', 0, none⟩) (Lof (moved os (ksOf xs))).length cap')).setCell ⟨g, 2, none⟩ (.pointer (some ⟨gb', 0, none⟩))).setCell ⟨g, 3, none⟩ (.int .u32 (last : Int))) = W5 := ⟨_, rfl⟩
  rw [hW5] at hone hd5 ⊢
  clear hW5 f' f
  have hgw := H.out.heap.gl.1
  have HOb5 := Lib.hid (obs_copy (base := base) (last := last) HOb4.out hone (by rw [hd5]) (by have := HS3.out; omega) H.out.heap.bg (by have := HS3.out; omega))
  have HCh5 : Hid (Ch2 g g w W5) := Lib.hid (((Ch2.refl g g w).below HB4.out).one hone (.inl rfl))
  have hr5 := HR.out.heap H.out.heap.hd HCh5.out (Nat.le_refl _)
  have hS3 := HS3.out
  have HL5 : Hid (GLook W5 lk g sb gG (Lof os).length) := Lib.hid ((hone.block _ (by omega)).trans HL4.out)
  have HG5 := Lib.hid (ownH_at HG4.out (hone.block gG (by omega)))
  have hcl := clone_total rs c A W5 (hr5.more HCh5.out.size) HA.out hrl
  clear hone hd5 hr5 HOb4 HO4 HB4 HL4 HG4
  refine hcl.mono ?_
  rintro e w6 (⟨b, c6, rfl, hO6, hb6⟩ | ⟨hnil, ⟨A6, c6, rfl⟩, hb6⟩)
  · have HO6 := Lib.hid hO6
    have HOb6 := Lib.hid (HOb5.out.below hb6)
    have HCh6 := Lib.hid (HCh5.out.below hb6)
    have hL6 : GLook w6 lk g sb gG (Lof os).length := (hb6.block _ (lt_of_block HL5.out)).trans HL5.out
    have hG6 := HG5.out.keep fun k cur hc => hb6.block k (lt_of_block hc)
    have hbW : W5.heap.size ≤ b := by
      rcases hO6.2 with ⟨e, _⟩ | ⟨g', cap', cur, e, hb', hg, _⟩
      · cases e
      · injection e with e1
        injection e1 with e1
        injection e1 with e1
        subst e1
        exact hb'
    have hgG5 : gG < W5.heap.size := by
      rcases HG5.out.2 with ⟨e, _⟩ | ⟨g', cap', cur, e, _, hg, _⟩
      · cases e
      · injection e with e1
        injection e1 with e1
        injection e1 with e1
        subst e1
        exact lt_of_block hg
    have hlenR : 0 + rs.length ≤ rs.length := by omega
    have htu := fun (c : Nat) => turn_any (n := rs.length) rs G b 0 c6 c W5.heap.size w1.heap.size w6 hL6 hG6 HGl.out HGo.out hO6 hlenR (by omega) (fun y hy => by
      obtain ⟨k, hk, rfl⟩ := HS.out.led y hy
      have := pos_top os hk
      omega) (fun i hi _ _ => ⟨HRs.out _ (List.getElem_mem hi), fun hw => HRt.out _ (List.getElem_mem hi) hw⟩) hrl
    have hTn : turnL (goal os (ksOf xs)) 0 rs.length rs = rs.map (goal os (ksOf xs)) := by
      unfold turnL
      rw [List.take_zero, List.nil_append, List.drop_zero, List.take_length, Nat.zero_add, List.drop_length, List.append_nil]
    rw [hTn] at htu
    clear hcl hO6 hb6 hL6 hG6 HL5 HG5 hlenR hTn
    go_wp2_with fail
    refine (htu _).mono ?_
    rintro e w7 ⟨rfl, hO7, h17⟩
    have HO7 := Lib.hid hO7
    have h7l : (rs.map (goal os (ksOf xs))).length = rs.length := List.length_map _
    have HOb7 : Hid (ObsAt w7 base g gc' cap' gb' gb2' size last (moved os (ksOf xs)) ws') := Lib.hid (by
      have hgl := HOb5.out.heap.gl
      exact ⟨HOb6.out.heap.at_ (h17.block _ (by omega)) (h17.block _ (by omega)) (h17.block _ (by omega)) (h17.block _ (by omega)), HOb6.out.set, HOb6.out.ok⟩)
    have HCh7 : Hid (Ch2 g g w w7) := Lib.hid (HCh6.out.one h17 (by have := HCh5.out.size; omega))
    have H7l := Lib.hid h7l
    clear hO7 h17 htu h7l
    go_wp2_with fail
    go_ret2
    refine ⟨some ⟨b, 0, none⟩, c6, ?_, ⟨⟨gc', cap', gb', gb2', ws', HOb7.out⟩, ownH_rd HO7.out, fun h => (by cases h), HCh7.out⟩⟩
    rw [H7l.out]
    rfl
  · subst hnil
    have HOb6 := Lib.hid (HOb5.out.below hb6)
    have HCh6 := Lib.hid (HCh5.out.below hb6)
    have htu := turn_zero (lk := lk) A6 c6 w6
    clear hcl hb6 HL5 HG5
    go_wp2_with fail
    refine htu.mono ?_
    rintro e w7 ⟨rfl, rfl⟩
    clear htu
    go_wp2_with fail
    go_ret2
    exact ⟨A6, c6, rfl, ⟨⟨gc', cap', gb', gb2', ws', HOb6.out⟩, .inl rfl, fun _ => rfl, HCh6.out⟩⟩
end
end Go.Proofs.YtahmljjjdoaahaaDoor.Fl
