/-
  CodeJoins' walk.
-/
import Derived.Test.YtghnpmhidcfghaaDoorCeE
import Derived.Test.YtghnpmhidcfghaaDoorWkCodeEncodes
import Derived.Lib.SmallJoins
namespace Go.Proofs.YtghnpmhidcfghaaDoor.Fl
open Go.RowKit

theorem ownI_none {w : World} {base c n : Nat} {A : Option Addr} {xs : List Ins} (h : OwnI w base (.slice A n c) xs) : (A = none → xs.length = 0) ∧ n = xs.length ∧ n ≤ c := by
  rcases h.2 with ⟨e1, e2⟩ | ⟨g, cap, cur, e1, _, _, hc, _⟩
  · cases e1
    exact ⟨fun _ => e2, e2.symm, Nat.zero_le _⟩
  · cases e1
    exact ⟨fun h => (by cases h), rfl, hc⟩
theorem wpList_guard {P : Program} {ops : Array Oper} {rest : List Oper} {o : Oper} {a : Act} {w : World} {Q : Exit → Act → World → Prop} (hw : Region.wanted o (yielded ops a.tmps) = true) (h : wpList P ops Q ({ o with guard := none } :: rest) a w) : wpList P ops Q (o :: rest) a w := by
  unfold wpList at h ⊢
  rw [if_pos hw]
  rw [if_pos (by simp [Region.wanted])] at h
  exact h
theorem encode_some {l : List Ins} {bs : List UInt8} (he : encR l = some bs) (A : Option Addr) (c B : Nat) (w : World) (hr : Rd w B A (ci l)) (hB : B ≤ w.heap.size) (hl : l.length ≤ 10000) (hw : ∀ x ∈ l, -9223372036854775808 ≤ x.2.1 ∧ x.2.1 ≤ 9223372036854775807 ∧ -9223372036854775808 ≤ x.2.2 ∧ x.2.2 ≤ 9223372036854775807) (hF : FormsAt w) :
    Calls Tryd.prog 8 #[.slice A l.length c] w fun e w' => ∃ A' c', e = .returned (.tuple #[.slice A' bs.length c', .int .i64 0]) ∧ Hid (OwnB w' w.heap.size (.slice A' bs.length c') bs) ∧ Hid (Below w.heap.size w w') := by
  refine (encode_any l A c B w hr hB hl hw hF).mono ?_
  rintro e w' ⟨hb, ⟨bs', A', c', hbs, _, rfl, ho⟩ | ⟨hn, _⟩⟩
  · obtain rfl : bs = bs' := by rw [he] at hbs; injection hbs
    exact ⟨A', c', rfl, Lib.hid ho, Lib.hid hb⟩
  · rw [he] at hn; cases hn
theorem encode_none {l : List Ins} (he : encR l = none) (A : Option Addr) (c B : Nat) (w : World) (hr : Rd w B A (ci l)) (hB : B ≤ w.heap.size) (hl : l.length ≤ 10000) (hw : ∀ x ∈ l, -9223372036854775808 ≤ x.2.1 ∧ x.2.1 ≤ 9223372036854775807 ∧ -9223372036854775808 ≤ x.2.2 ∧ x.2.2 ≤ 9223372036854775807) (hF : FormsAt w) :
    Calls Tryd.prog 8 #[.slice A l.length c] w fun e w' => e = .returned (.tuple #[.slice none 0 0, .int .i64 1]) ∧ Hid (Below w.heap.size w w') := by
  refine (encode_any l A c B w hr hB hl hw hF).mono ?_
  rintro e w' ⟨hb, ⟨bs', A', c', hbs, _, rfl, ho⟩ | ⟨_, rfl⟩⟩
  · rw [he] at hbs; cases hbs
  · exact ⟨rfl, Lib.hid hb⟩
theorem encR_isI : ∀ (l : List Ins) (bs : List UInt8), encR l = some bs → ∀ x ∈ l, isI x.1 x.2.1 x.2.2 = true
  | [], _, _ => fun x hx => by cases hx
  | y :: l, bs, h => by
    obtain ⟨hi, cs, hcs, rfl⟩ := encR_cons h
    intro x hx
    rcases List.mem_cons.1 hx with rfl | hx
    · exact hi
    · exact encR_isI l cs hcs x hx
theorem textR_le (l : List Ins) : ∀ (q : Nat), (∀ x ∈ l, isI x.1 x.2.1 x.2.2 = true) → (q : Int) + 5 * l.length ≤ 1000000 → (textR q l).length ≤ 200 * l.length := by
  induction l with
  | nil => intro q _ _; rw [textR]; exact Nat.zero_le _
  | cons x l ih =>
    intro q h hq
    obtain ⟨op, a, b⟩ := x
    have hi : isI op a b = true := h _ (List.mem_cons_self ..)
    obtain ⟨⟨a0, a1⟩, b0, b1⟩ := isI_bd hi
    have h5 := enc1_len hi
    rw [List.length_cons] at hq
    have ih := ih (q + (enc1 (op, a, b)).length) (fun x hx => h x (List.mem_cons_of_mem _ hx)) (by omega)
    have hll := line_le q (op, a, b) (by omega) (by show _ ≤ a ∧ a ≤ _; omega) (by show _ ≤ b ∧ b ≤ _; omega)
    rw [textR, List.length_append, List.length_cons]
    omega
theorem ends_take_le (l : List UInt8) (n : Nat) : ends (l.take n) ≤ ends l := (List.take_sublist n l).countP_le
theorem ends_take_succ (l : List UInt8) (n : Nat) (h : n < l.length) : ends (l.take (n + 1)) = ends (l.take n) + (if l[n] = 10 then 1 else 0) := by
  rw [List.take_succ_eq_append_getElem h, ends_app]
  congr 1
  unfold ends
  rw [List.countP_singleton]
  by_cases hc : l[n] = 10
  · rw [if_pos hc, if_pos (by rw [hc]; rfl)]
  · rw [if_neg hc, if_neg (by simpa using hc)]
set_option maxRecDepth 100000 in
set_option maxHeartbeats 4000000 in
theorem walkp_CodeJoins (A : Option Addr) (c : Nat) (ys : List Ins) (A' : Option Addr) (c' : Nat) (ys' : List Ins) (w : World) (hr : Rd w w.heap.size A (ci ys)) (hc : ys.length ≤ c) (hok : insOk ys) (hr' : Rd w w.heap.size A' (ci ys')) (hc' : ys'.length ≤ c') (hok' : insOk ys') (hF : FormsAt w) (hE : ∀ w', Below w.heap.size w w' → EnvC w') (haw1 : Calls Tryd.prog 6 #[] w fun e w' => e = .returned (.bool true) ∧ Below w.heap.size w w') :
    Calls Tryd.prog 5 #[.slice A ys.length c, .slice A' ys'.length c'] w fun e w' => e = .returned (.bool true) ∧ Below w.heap.size w w' := by
  have HR := Lib.hid hr
  have HK := Lib.hid hok
  have HR' := Lib.hid hr'
  have HK' := Lib.hid hok'
  have HF := Lib.hid (fun w' (h : Below w.heap.size w w') => hF.below h)
  have HE := Lib.hid hE
  clear hr hok hr' hok' hF hE
  go_enter Tryd.func5, Tryd.ntmps5
  go_wp2_with fail
  refine haw1.mono ?_
  rintro e w1 ⟨rfl, hb1⟩
  clear haw1
  have HB1 := Lib.hid hb1
  clear hb1
  obtain ⟨xs, hxs⟩ : ∃ xs, ys.take 60 = xs := ⟨_, rfl⟩
  have hl0 : xs.length ≤ 60 := by rw [← hxs, List.length_take]; omega
  have HX0 := Lib.hid (show xs.length = if 60 < ys.length then 60 else ys.length by
    rw [← hxs, List.length_take]; split <;> omega)
  have HQ0 := Lib.hid (show Rd w w.heap.size A (ci xs) by rw [← hxs]; exact rdI_take HR.out 60)
  have HW0 := Lib.hid (show insOk xs from fun x hx => HK.out x (List.mem_of_mem_take (by rw [hxs]; exact hx)))
  clear hxs HR HK
  generalize ys.length = len0 at *
  go_upto_if 26 with fail
  go_cut [0] (fun v wx => (∃ cc, v = .slice A xs.length cc) ∧ w1 = wx)
  case first =>
    by_cases hcc : 60 < len0
    · have hx2 := HX0.out
      rw [if_pos hcc] at hx2
      have hx3 := Lib.hid hx2
      clear hx2
      go_wp2_with fail
      all_goals go_meet
      all_goals exact ⟨⟨c, by rw [hx3.out]⟩, rfl⟩
    · have hx2 := HX0.out
      rw [if_neg hcc] at hx2
      have hx3 := Lib.hid hx2
      clear hx2
      go_wp2_with fail
      all_goals go_meet
      all_goals exact ⟨⟨c, by rw [hx3.out]⟩, rfl⟩
  obtain ⟨⟨cc0, rfl⟩, rfl⟩ := hcut
  clear HX0 hc
  obtain ⟨zs, hzs⟩ : ∃ zs, ys'.take 60 = zs := ⟨_, rfl⟩
  have hl1 : zs.length ≤ 60 := by rw [← hzs, List.length_take]; omega
  have HX1 := Lib.hid (show zs.length = if 60 < ys'.length then 60 else ys'.length by
    rw [← hzs, List.length_take]; split <;> omega)
  have HQ1 := Lib.hid (show Rd w w.heap.size A' (ci zs) by rw [← hzs]; exact rdI_take HR'.out 60)
  have HW1 := Lib.hid (show insOk zs from fun x hx => HK'.out x (List.mem_of_mem_take (by rw [hzs]; exact hx)))
  clear hzs HR' HK'
  generalize ys'.length = len1 at *
  go_upto_if 31 with fail
  go_cut [1] (fun v wx => (∃ cc, v = .slice A' zs.length cc) ∧ w1 = wx)
  case first =>
    by_cases hcc : 60 < len1
    · have hx2 := HX1.out
      rw [if_pos hcc] at hx2
      have hx3 := Lib.hid hx2
      clear hx2
      go_wp2_with fail
      all_goals go_meet
      all_goals exact ⟨⟨c', by rw [hx3.out]⟩, rfl⟩
    · have hx2 := HX1.out
      rw [if_neg hcc] at hx2
      have hx3 := Lib.hid hx2
      clear hx2
      go_wp2_with fail
      all_goals go_meet
      all_goals exact ⟨⟨c', by rw [hx3.out]⟩, rfl⟩
  obtain ⟨⟨cc1, rfl⟩, rfl⟩ := hcut
  clear HX1 hc'
  have HB00 := HB1
  go_wp2_with fail
  go_loopw [5, 36] (fun v3 v25 wr => ∃ (k : Nat) (Al : Option Addr) (c2 : Nat), k ≤ xs.length ∧ v3 = .slice Al (xs.take k).length c2 ∧ v25 = .int .i64 (k : Int) ∧ Hid (OwnI wr w1.heap.size (.slice Al (xs.take k).length c2) (xs.take k)) ∧ Hid (Below w1.heap.size w1 wr)) (fun _ v25 _ => xs.length - (intOf v25).toNat)
  case atStart => exact ⟨0, none, 0, Nat.zero_le _, rfl, rfl, Lib.hid (ownI_nil _ _), Lib.hid (Below.refl _ _)⟩
  case round =>
    obtain ⟨k, Al0, cl0, hk, rfl, rfl, HO, HB⟩ := hrel
    obtain ⟨t0, hts⟩ : ∃ t0, xs.take k = t0 := ⟨_, rfl⟩
    have HTs := Lib.hid hts
    have htl : t0.length ≤ 100 := by rw [← hts, List.length_take]; omega
    rw [hts] at HO ⊢
    clear hts
    by_cases hlt : k < xs.length
    · obtain ⟨op, a, b, he⟩ : ∃ op a b, xs[k] = (op, a, b) := ⟨_, _, _, rfl⟩
      have HT2 : Hid (xs.take (k + 1) = t0 ++ [(op, a, b)]) := Lib.hid (by rw [List.take_succ_eq_append_getElem hlt, HTs.out, he])
      have HBw := Lib.hid (HB00.out.trans (HB.out.mono HB00.out.size))
      obtain ⟨g, off, rfl, hg, d0, d1, d2⟩ := rdI_at (HQ0.out.below HBw.out (Nat.le_refl _)) hlt he
      have hgw := Nat.lt_of_lt_of_le hg HBw.out.size
      have hb1 : Below wr.heap.size wr (wr.alloc (.cells #[.int .i64 op, .int .i64 a, .int .i64 b] 26)) := (Below.refl _ _).alloc (Nat.le_refl _) _
      have hw1 := heap_alloc_new wr (.cells #[.int .i64 op, .int .i64 a, .int .i64 b] 26)
      have f1 := three_cellsC hw1
      have hown := own_any op a b (wr.alloc (.cells #[.int .i64 op, .int .i64 a, .int .i64 b] 26))
      unfold insV at hown
      have HB2 := Lib.hid (HB.out.trans (hb1.mono HB.out.size))
      have HO2 := Lib.hid (HO.out.below hb1)
      clear hb1 hw1 he
      go_wp2_with fail
      refine hown.mono ?_
      rintro e w3 ⟨rfl, hb3⟩
      have HB3 := Lib.hid (HB2.out.trans (hb3.mono HB2.out.size))
      have HO3 := Lib.hid (HO2.out.below hb3)
      have HO4 := Lib.hid (HO3.out.below ((Below.refl w3.heap.size w3).alloc (Nat.le_refl _) (.cells #[.int .i64 op, .int .i64 a, .int .i64 b] 27)))
      have HR4 := Lib.hid (rd_oneI w3 op a b)
      have hs3 := Nat.le_trans HB00.out.size HB3.out.size
      have hs4 := HB3.out.size
      clear hown hb3 HB2 HO2 HB HO f1 d0 d1 d2 HBw
      go_wp2_with (at_builtin; refine wpList_append_i (base := w1.heap.size) (v := .slice Al0 t0.length _) (xs := t0) (news := [(op, a, b)]) rfl _ _ rfl rfl rfl HO4.out HR4.out (fun h => by cases h) (by omega) (by simp) (by rw [World.size_alloc]; omega) ?_; intro A5 t5 c5 w5 HT5 HO5 HB5; have HB6 : Hid (Below w1.heap.size w1 w5) := Lib.hid ((HB3.out.alloc (by omega) (.cells #[.int .i64 op, .int .i64 a, .int .i64 b] 27)).trans HB5.out.1); have HT6 : Hid (xs.take (k + 1) = t5) := Lib.hid (by rw [HT5.out, HT2.out]))
      go_roundw
      case rel => exact ⟨k + 1, A5, c5, hlt, by rw [HT6.out], rfl, Lib.hid (by rw [HT6.out]; exact HO5.out), HB6⟩
      case measure => simp [intOf]; omega
    · have htx : t0 = xs := by rw [← HTs.out]; exact List.take_of_length_le (by omega)
      subst htx
      obtain rfl : k = t0.length := by omega
      clear HTs hlt htl hk
      obtain ⟨w2, hw2⟩ : ∃ w2, w2 = wr := ⟨_, rfl⟩
      subst hw2
      have HOx := HO
      have HB10 := Lib.hid (HB1.out.trans (HB.out.mono HB1.out.size))
      clear HO HB HB00 HB1
      go_wp2_with fail
      go_loopw [6, 48] (fun v3 v25 wr => ∃ (k : Nat) (Al : Option Addr) (c2 : Nat), k ≤ zs.length ∧ v3 = .slice Al (zs.take k).length c2 ∧ v25 = .int .i64 (k : Int) ∧ Hid (OwnI wr w2.heap.size (.slice Al (zs.take k).length c2) (zs.take k)) ∧ Hid (Below w2.heap.size w2 wr)) (fun _ v25 _ => zs.length - (intOf v25).toNat)
      case atStart => exact ⟨0, none, 0, Nat.zero_le _, rfl, rfl, Lib.hid (ownI_nil _ _), Lib.hid (Below.refl _ _)⟩
      case round =>
        obtain ⟨k, Al1, cl1, hk, rfl, rfl, HO, HB⟩ := hrel
        obtain ⟨t1, hts⟩ : ∃ t1, zs.take k = t1 := ⟨_, rfl⟩
        have HTs := Lib.hid hts
        have htl : t1.length ≤ 100 := by rw [← hts, List.length_take]; omega
        rw [hts] at HO ⊢
        clear hts
        by_cases hlt : k < zs.length
        · obtain ⟨op, a, b, he⟩ : ∃ op a b, zs[k] = (op, a, b) := ⟨_, _, _, rfl⟩
          have HT2 : Hid (zs.take (k + 1) = t1 ++ [(op, a, b)]) := Lib.hid (by rw [List.take_succ_eq_append_getElem hlt, HTs.out, he])
          have HBw := Lib.hid (HB10.out.trans (HB.out.mono HB10.out.size))
          obtain ⟨g, off, rfl, hg, d0, d1, d2⟩ := rdI_at (HQ1.out.below HBw.out (Nat.le_refl _)) hlt he
          have hgw := Nat.lt_of_lt_of_le hg HBw.out.size
          have hb1 : Below wr.heap.size wr (wr.alloc (.cells #[.int .i64 op, .int .i64 a, .int .i64 b] 26)) := (Below.refl _ _).alloc (Nat.le_refl _) _
          have hw1 := heap_alloc_new wr (.cells #[.int .i64 op, .int .i64 a, .int .i64 b] 26)
          have f1 := three_cellsC hw1
          have hown := own_any op a b (wr.alloc (.cells #[.int .i64 op, .int .i64 a, .int .i64 b] 26))
          unfold insV at hown
          have HB2 := Lib.hid (HB.out.trans (hb1.mono HB.out.size))
          have HO2 := Lib.hid (HO.out.below hb1)
          clear hb1 hw1 he
          go_wp2_with fail
          refine hown.mono ?_
          rintro e w3 ⟨rfl, hb3⟩
          have HB3 := Lib.hid (HB2.out.trans (hb3.mono HB2.out.size))
          have HO3 := Lib.hid (HO2.out.below hb3)
          have HO4 := Lib.hid (HO3.out.below ((Below.refl w3.heap.size w3).alloc (Nat.le_refl _) (.cells #[.int .i64 op, .int .i64 a, .int .i64 b] 27)))
          have HR4 := Lib.hid (rd_oneI w3 op a b)
          have hs3 := Nat.le_trans HB10.out.size HB3.out.size
          have hs4 := HB3.out.size
          clear hown hb3 HB2 HO2 HB HO f1 d0 d1 d2 HBw
          go_wp2_with (at_builtin; refine wpList_append_i (base := w2.heap.size) (v := .slice Al1 t1.length _) (xs := t1) (news := [(op, a, b)]) rfl _ _ rfl rfl rfl HO4.out HR4.out (fun h => by cases h) (by omega) (by simp) (by rw [World.size_alloc]; omega) ?_; intro A5 t5 c5 w5 HT5 HO5 HB5; have HB6 : Hid (Below w2.heap.size w2 w5) := Lib.hid ((HB3.out.alloc (by omega) (.cells #[.int .i64 op, .int .i64 a, .int .i64 b] 27)).trans HB5.out.1); have HT6 : Hid (zs.take (k + 1) = t5) := Lib.hid (by rw [HT5.out, HT2.out]))
          go_roundw
          case rel => exact ⟨k + 1, A5, c5, hlt, by rw [HT6.out], rfl, Lib.hid (by rw [HT6.out]; exact HO5.out), HB6⟩
          case measure => simp [intOf]; omega
        · have htx : t1 = zs := by rw [← HTs.out]; exact List.take_of_length_le (by omega)
          subst htx
          obtain rfl : k = t1.length := by omega
          clear HTs hlt htl hk
          have HOy := HO
          have HOx2 := Lib.hid (HOx.out.below HB.out)
          have HB20 := Lib.hid (HB10.out.trans (HB.out.mono HB10.out.size))
          have hlx := (ownI_none HOx2.out).2.2
          clear HO HB HB10 HOx
          have henc := encode_any t0 Al0 cl0 wr.heap.size wr (ownI_rd HOx2.out) (Nat.le_refl _) (by omega) (fun x hx => (HW0.out x hx).2) (HF.out _ HB20.out)
          go_wp2_with fail
          refine henc.mono ?_
          rintro e w4 ⟨hb4, hcx⟩
          clear henc
          have HB40 := Lib.hid (HB20.out.trans (hb4.mono HB20.out.size))
          have HOy4 := Lib.hid (HOy.out.below hb4)
          have HOx4 := Lib.hid (HOx2.out.below hb4)
          clear HOx2 HOy HB20
          have henc := encode_any t1 Al1 cl1 w4.heap.size w4 (ownI_rd HOy4.out) (Nat.le_refl _) (by omega) (fun x hx => (HW1.out x hx).2) (HF.out _ HB40.out)
          rcases hcx with ⟨p, Ap, cp, hp, hpl, rfl, hOp⟩ | ⟨hp, rfl⟩
          · have HOp := Lib.hid hOp
            clear hOp hb4
            go_wp2_with fail
            refine henc.mono ?_
            rintro e w5 ⟨hb5, hcy⟩
            clear henc
            have HB50 := Lib.hid (HB40.out.trans (hb5.mono HB40.out.size))
            have HOp5 := Lib.hid (OwnB.below HOp.out hb5)
            have HOx5 := Lib.hid (HOx4.out.below hb5)
            have HOy5 := Lib.hid (HOy4.out.below hb5)
            clear HOx4 HOy4 HOp HB40 hb5
            rcases hcy with ⟨q, Aq, cq, hq, hql, rfl, hOq⟩ | ⟨hq, rfl⟩
            · have HOq5 := Lib.hid hOq
              clear hOq
              have HE3 := Lib.hid (show encR (t0 ++ t1) = some (p ++ q) by rw [encR_app, hp, hq]; rfl)
              clear hp hq
              have hba : Below w5.heap.size w5 (w5.alloc (.cells #[] 27)) := (Below.refl _ _).alloc (Nat.le_refl _) _
              have HV := Lib.hid (ownI_void w5)
              have HX6 := Lib.hid (ownI_rd (HOx5.out.below hba))
              have hnx := (ownI_none HOx5.out).1
              have hny := (ownI_none HOy5.out).1
              have HYr := Lib.hid ((ownI_rd HOy5.out).below hba (Nat.le_refl _))
              have HBa := Lib.hid hba
              clear hba HOx5 HOy5
              have hs5 := HB50.out.size
              go_wp2_with (first | (at_builtin; refine wpList_append_i (base := w5.heap.size) (v := .slice (some ⟨w5.heap.size, 0, none⟩) 0 0) (xs := []) (news := t0) rfl _ _ rfl rfl rfl HV.out HX6.out hnx (by simp) (by omega) (by rw [World.size_alloc]; omega) ?_; intro A7 t7 c7 w7 HT7 HO7 HB7; have e7 : t0 = t7 := HT7.out.symm; subst e7; have HY7 := Lib.hid ((HYr.out.below HB7.out.1 (Nat.le_refl _)).more (show w5.heap.size ≤ w7.heap.size by have := HB7.out.1.size; rw [World.size_alloc] at this; omega)); clear HT7 HX6 HV HYr) | (at_builtin; refine wpList_append_i (base := w5.heap.size) (v := .slice A7 t0.length c7) (xs := t0) (news := t1) rfl _ _ rfl rfl rfl HO7.out HY7.out hny (by omega) (by omega) (by have := HB7.out.1.size; rw [World.size_alloc] at this; omega) ?_; intro A8 t8 c8 w8 HT8 HO8 HB8; have HB80 := Lib.hid (HB50.out.trans ((HBa.out.trans (HB7.out.1.trans HB8.out.1)).mono HB50.out.size)); have HB58 := Lib.hid (HBa.out.trans (HB7.out.1.trans HB8.out.1)); have e8 : t0 ++ t1 = t8 := HT8.out.symm; subst e8; clear HT8 HY7 HO7 HB7 HB8))
              have htt : (t0 ++ t1).length = t0.length + t1.length := List.length_append
              have HTm := Lib.hid (fun x (h : x ∈ t0 ++ t1) => (List.mem_append.1 h).elim (fun h => (HW0.out x h).2) (fun h => (HW1.out x h).2))
              have HZl := Lib.hid (show (p ++ q).length ≤ 5 * (t0 ++ t1).length by rw [htt, List.length_append]; omega)
              obtain ⟨z, hz⟩ : ∃ z, p ++ q = z := ⟨_, rfl⟩
              rw [hz] at HE3 HZl
              have HZ := Lib.hid hz
              have HTt := Lib.hid htt
              generalize t0 ++ t1 = T at *
              have henc := encode_some HE3.out A8 c8 w8.heap.size w8 (ownI_rd HO8.out) (Nat.le_refl _) (by omega) HTm.out (HF.out _ HB80.out)
              rw [← htt]
              refine henc.mono ?_
              rintro e w9 ⟨Az, cz, rfl, HOz, HB89⟩
              clear henc
              have hcz := (ownB_rd HOz.out).2.2.2
              have HB90 := Lib.hid (HB80.out.trans (HB89.out.mono HB80.out.size))
              have HOp9 := Lib.hid ((HOp5.out.below HB58.out).below HB89.out)
              have HOq9 := Lib.hid ((HOq5.out.below HB58.out).below HB89.out)
              clear HOp5 HOq5 HO8 HB58 HB89 HB80 HB50
              have hzl := HZl.out
              have htx := text_any T z HE3.out (by omega) hzl Az cz w9.heap.size w9 (ownB_rd HOz.out).1 (Nat.le_refl _) hcz (fun w' h => HF.out _ (HB90.out.trans (h.mono HB90.out.size))) (fun w' h => HE.out _ (HB90.out.trans (h.mono HB90.out.size)))
              have hen := ends_text 0 T
              have hxl := textR_le T 0 (encR_isI T z HE3.out) (by omega)
              generalize textR 0 T = X at *
              go_wp2_with fail
              refine htx.mono ?_
              rintro e w10 ⟨rfl, hb10⟩
              clear htx
              have HB100 := Lib.hid (HB90.out.trans (hb10.mono HB90.out.size))
              have HOz10 := Lib.hid (HOz.out.below hb10)
              have HOp10 := Lib.hid (HOp9.out.below hb10)
              have HOq10 := Lib.hid (HOq9.out.below hb10)
              clear HOz HOp9 HOq9 HB90 hb10
              have hcv := Lib.run_convert_string_bytes (P := Tryd.prog) w10 9 29 5 (⟨X.toArray⟩ : ByteArray) Tryd.underlying9 Tryd.underlying29 Tryd.underlying5
              have hbw := Joins.below_bytesWorld w10.heap.size w10 5 (⟨X.toArray⟩ : ByteArray) (Nat.le_refl _)
              have hlw : w10.heap.size < (Lib.bytesWorld w10 5 (⟨X.toArray⟩ : ByteArray)).heap.size := by rw [Lib.bytesWorld_size]; omega
              have hsz : (⟨X.toArray⟩ : ByteArray).size = X.length := rfl
              have hcw : ∀ j (h : j < X.length), (Lib.bytesWorld w10 5 (⟨X.toArray⟩ : ByteArray)).cell? ⟨w10.heap.size, j, none⟩ = some (.int .u8 (X[j].toNat : Int)) := fun j h => by
                rw [Lib.bytesWorld_cell _ _ _ _ (by rw [hsz]; exact h)]
                congr 4
                rw [List.getD, List.getElem?_eq_getElem h]
                rfl
              go_wp2_with fail
              have HB110 := Lib.hid (HB100.out.trans (hbw.mono HB100.out.size))
              have HOz11 := Lib.hid (HOz10.out.below hbw)
              have HOp11 := Lib.hid (HOp10.out.below hbw)
              have HOq11 := Lib.hid (HOq10.out.below hbw)
              have HCw := Lib.hid hcw
              clear hcv hbw hcw HOz10 HOp10 HOq10 HB100
              try rw [hsz]
              generalize Lib.bytesWorld w10 5 (⟨X.toArray⟩ : ByteArray) = w11 at *
              have HEn := Lib.hid hen
              clear hen
              go_loopw [19, 98] (fun v19 v98 wi => ∃ (j : Nat), j ≤ X.length ∧ v19 = .int .i64 (ends (X.take j) : Int) ∧ v98 = .int .i64 (j : Int) ∧ w11 = wi) (fun _ v98 _ => X.length - (intOf v98).toNat)
              case atStart => exact ⟨0, Nat.zero_le _, rfl, rfl, rfl⟩
              case round =>
                obtain ⟨j, hj, rfl, rfl, rfl⟩ := hrel
                by_cases hjl : j < X.length
                · have hc0 := HCw.out j hjl
                  have hes := ends_take_succ X j hjl
                  have hel := ends_take_le X j
                  have hee := HEn.out
                  have hch := (X[j]).toNat_lt
                  obtain ⟨ch, hchh⟩ : ∃ ch, X[j] = ch := ⟨_, rfl⟩
                  rw [hchh] at hc0 hes hch
                  by_cases h10 : ch = 10
                  · rw [if_pos h10] at hes
                    have hq : ((ch.toNat : Int) == 10) = true := by rw [h10]; rfl
                    go_wp2_with fail
                    go_roundw
                    case rel => exact ⟨j + 1, hjl, by rw [hes]; rfl, rfl, trivial⟩
                    case measure => simp [intOf]; omega
                  · rw [if_neg h10] at hes
                    have hq : ((ch.toNat : Int) == 10) = false := by
                      rw [beq_eq_false_iff_ne]
                      intro e
                      exact h10 (UInt8.toNat_inj.1 (by have h8 : (10 : UInt8).toNat = 10 := rfl; omega))
                    go_wp2_with fail
                    go_roundw
                    case rel => exact ⟨j + 1, hjl, by rw [hes]; rfl, rfl, trivial⟩
                    case measure => simp [intOf]; omega
                · obtain rfl : j = X.length := by omega
                  rw [List.take_length, HEn.out]
                  have hrp := ownB_rd HOp11.out
                  have hcp := copyC_any p cp w11.heap.size Ap w11 hrp.1 (Nat.le_refl _) (by omega) hrp.2.1
                  have hte : (((T.length : Nat) : Int) == (t0.length : Int) + (t1.length : Int)) = true := by rw [beq_iff_eq, HTt.out]; omega
                  have hrq := ownB_rd HOq11.out
                  have HRq := Lib.hid hrq.1
                  have hnq := hrq.2.1
                  have HRz := Lib.hid (ownB_rd HOz11.out).1
                  clear hrp hrq HCw hjl hxl hj hlw hsz HOp11 HOq11 HOz11
                  go_wp2_with (first | (go_at_call 12; refine hcp.mono ?_; rintro e w12 ⟨Ac, cc, rfl, HOc, hb12⟩; have HO12 := Lib.hid HOc; have HB12 := Lib.hid hb12; have HR12 := Lib.hid ((HRq.out.below hb12 (Nat.le_refl _)).more hb12.size); have HZ12 := Lib.hid (HRz.out.below hb12 (Nat.le_refl _)); clear hcp HOc hb12) | (at_builtin; refine wpList_guard (by rfl) ?_; refine wpList_append_u (base := w11.heap.size) (v := .slice Ac p.length cc) (xs := p) (news := q) rfl _ _ rfl rfl rfl HO12.out HR12.out hnq (by omega) (by omega) HB12.out.size ?_; intro A13 t13 c13 w13 HT13 HO13 HB13; have e13 : z = t13 := (HT13.out.trans HZ.out).symm; subst e13; have HR13 := Lib.hid (HZ12.out.below HB13.out.1 (Nat.le_refl _)); have heq := equalC z cz c13 w11.heap.size w13.heap.size Az A13 w13 HR13.out (ownB_rd HO13.out).1; have HB130 := Lib.hid (HB110.out.trans ((HB12.out.trans HB13.out.1).mono HB110.out.size)); clear HT13 HR12 HZ12) | (go_at_call 10; refine heq.mono ?_; rintro e w14 ⟨rfl, rfl⟩))
                  go_ret
                  exact ⟨rfl, HB130.out⟩
            · have HE3 := Lib.hid (show encR (t0 ++ t1) = none by rw [encR_app, hp, hq]; rfl)
              clear hp hq
              have hba : Below w5.heap.size w5 (w5.alloc (.cells #[] 27)) := (Below.refl _ _).alloc (Nat.le_refl _) _
              have HV := Lib.hid (ownI_void w5)
              have HX6 := Lib.hid (ownI_rd (HOx5.out.below hba))
              have hnx := (ownI_none HOx5.out).1
              have hny := (ownI_none HOy5.out).1
              have HYr := Lib.hid ((ownI_rd HOy5.out).below hba (Nat.le_refl _))
              have HBa := Lib.hid hba
              clear hba HOx5 HOy5
              have hs5 := HB50.out.size
              go_wp2_with (first | (at_builtin; refine wpList_append_i (base := w5.heap.size) (v := .slice (some ⟨w5.heap.size, 0, none⟩) 0 0) (xs := []) (news := t0) rfl _ _ rfl rfl rfl HV.out HX6.out hnx (by simp) (by omega) (by rw [World.size_alloc]; omega) ?_; intro A7 t7 c7 w7 HT7 HO7 HB7; have e7 : t0 = t7 := HT7.out.symm; subst e7; have HY7 := Lib.hid ((HYr.out.below HB7.out.1 (Nat.le_refl _)).more (show w5.heap.size ≤ w7.heap.size by have := HB7.out.1.size; rw [World.size_alloc] at this; omega)); clear HT7 HX6 HV HYr) | (at_builtin; refine wpList_append_i (base := w5.heap.size) (v := .slice A7 t0.length c7) (xs := t0) (news := t1) rfl _ _ rfl rfl rfl HO7.out HY7.out hny (by omega) (by omega) (by have := HB7.out.1.size; rw [World.size_alloc] at this; omega) ?_; intro A8 t8 c8 w8 HT8 HO8 HB8; have HB80 := Lib.hid (HB50.out.trans ((HBa.out.trans (HB7.out.1.trans HB8.out.1)).mono HB50.out.size)); have HB58 := Lib.hid (HBa.out.trans (HB7.out.1.trans HB8.out.1)); have e8 : t0 ++ t1 = t8 := HT8.out.symm; subst e8; clear HT8 HY7 HO7 HB7 HB8))
              have htt : (t0 ++ t1).length = t0.length + t1.length := List.length_append
              have HTm := Lib.hid (fun x (h : x ∈ t0 ++ t1) => (List.mem_append.1 h).elim (fun h => (HW0.out x h).2) (fun h => (HW1.out x h).2))
              generalize t0 ++ t1 = T at *
              have henc := encode_none HE3.out A8 c8 w8.heap.size w8 (ownI_rd HO8.out) (Nat.le_refl _) (by omega) HTm.out (HF.out _ HB80.out)
              rw [← htt]
              refine henc.mono ?_
              rintro e w9 ⟨rfl, HB89⟩
              clear henc
              have HB90 := Lib.hid (HB80.out.trans (HB89.out.mono HB80.out.size))
              go_wp2_with fail
              go_ret
              exact ⟨rfl, HB90.out⟩
          · have HE3 := Lib.hid (show encR (t0 ++ t1) = none by rw [encR_app, hp]; rfl)
            clear hp hb4
            go_wp2_with fail
            refine henc.mono ?_
            rintro e w5 ⟨hb5, hcy⟩
            clear henc
            have HB50 := Lib.hid (HB40.out.trans (hb5.mono HB40.out.size))
            have HOx5 := Lib.hid (HOx4.out.below hb5)
            have HOy5 := Lib.hid (HOy4.out.below hb5)
            clear HOx4 HOy4 HB40 hb5
            rcases hcy with ⟨q, Aq, cq, hq, hql, rfl, hOq⟩ | ⟨hq, rfl⟩
            · clear hq hOq
              have hba : Below w5.heap.size w5 (w5.alloc (.cells #[] 27)) := (Below.refl _ _).alloc (Nat.le_refl _) _
              have HV := Lib.hid (ownI_void w5)
              have HX6 := Lib.hid (ownI_rd (HOx5.out.below hba))
              have hnx := (ownI_none HOx5.out).1
              have hny := (ownI_none HOy5.out).1
              have HYr := Lib.hid ((ownI_rd HOy5.out).below hba (Nat.le_refl _))
              have HBa := Lib.hid hba
              clear hba HOx5 HOy5
              have hs5 := HB50.out.size
              go_wp2_with (first | (at_builtin; refine wpList_append_i (base := w5.heap.size) (v := .slice (some ⟨w5.heap.size, 0, none⟩) 0 0) (xs := []) (news := t0) rfl _ _ rfl rfl rfl HV.out HX6.out hnx (by simp) (by omega) (by rw [World.size_alloc]; omega) ?_; intro A7 t7 c7 w7 HT7 HO7 HB7; have e7 : t0 = t7 := HT7.out.symm; subst e7; have HY7 := Lib.hid ((HYr.out.below HB7.out.1 (Nat.le_refl _)).more (show w5.heap.size ≤ w7.heap.size by have := HB7.out.1.size; rw [World.size_alloc] at this; omega)); clear HT7 HX6 HV HYr) | (at_builtin; refine wpList_append_i (base := w5.heap.size) (v := .slice A7 t0.length c7) (xs := t0) (news := t1) rfl _ _ rfl rfl rfl HO7.out HY7.out hny (by omega) (by omega) (by have := HB7.out.1.size; rw [World.size_alloc] at this; omega) ?_; intro A8 t8 c8 w8 HT8 HO8 HB8; have HB80 := Lib.hid (HB50.out.trans ((HBa.out.trans (HB7.out.1.trans HB8.out.1)).mono HB50.out.size)); have HB58 := Lib.hid (HBa.out.trans (HB7.out.1.trans HB8.out.1)); have e8 : t0 ++ t1 = t8 := HT8.out.symm; subst e8; clear HT8 HY7 HO7 HB7 HB8))
              have htt : (t0 ++ t1).length = t0.length + t1.length := List.length_append
              have HTm := Lib.hid (fun x (h : x ∈ t0 ++ t1) => (List.mem_append.1 h).elim (fun h => (HW0.out x h).2) (fun h => (HW1.out x h).2))
              generalize t0 ++ t1 = T at *
              have henc := encode_none HE3.out A8 c8 w8.heap.size w8 (ownI_rd HO8.out) (Nat.le_refl _) (by omega) HTm.out (HF.out _ HB80.out)
              rw [← htt]
              refine henc.mono ?_
              rintro e w9 ⟨rfl, HB89⟩
              clear henc
              have HB90 := Lib.hid (HB80.out.trans (HB89.out.mono HB80.out.size))
              go_wp2_with fail
              go_ret
              exact ⟨rfl, HB90.out⟩
            · clear hq
              have hba : Below w5.heap.size w5 (w5.alloc (.cells #[] 27)) := (Below.refl _ _).alloc (Nat.le_refl _) _
              have HV := Lib.hid (ownI_void w5)
              have HX6 := Lib.hid (ownI_rd (HOx5.out.below hba))
              have hnx := (ownI_none HOx5.out).1
              have hny := (ownI_none HOy5.out).1
              have HYr := Lib.hid ((ownI_rd HOy5.out).below hba (Nat.le_refl _))
              have HBa := Lib.hid hba
              clear hba HOx5 HOy5
              have hs5 := HB50.out.size
              go_wp2_with (first | (at_builtin; refine wpList_append_i (base := w5.heap.size) (v := .slice (some ⟨w5.heap.size, 0, none⟩) 0 0) (xs := []) (news := t0) rfl _ _ rfl rfl rfl HV.out HX6.out hnx (by simp) (by omega) (by rw [World.size_alloc]; omega) ?_; intro A7 t7 c7 w7 HT7 HO7 HB7; have e7 : t0 = t7 := HT7.out.symm; subst e7; have HY7 := Lib.hid ((HYr.out.below HB7.out.1 (Nat.le_refl _)).more (show w5.heap.size ≤ w7.heap.size by have := HB7.out.1.size; rw [World.size_alloc] at this; omega)); clear HT7 HX6 HV HYr) | (at_builtin; refine wpList_append_i (base := w5.heap.size) (v := .slice A7 t0.length c7) (xs := t0) (news := t1) rfl _ _ rfl rfl rfl HO7.out HY7.out hny (by omega) (by omega) (by have := HB7.out.1.size; rw [World.size_alloc] at this; omega) ?_; intro A8 t8 c8 w8 HT8 HO8 HB8; have HB80 := Lib.hid (HB50.out.trans ((HBa.out.trans (HB7.out.1.trans HB8.out.1)).mono HB50.out.size)); have HB58 := Lib.hid (HBa.out.trans (HB7.out.1.trans HB8.out.1)); have e8 : t0 ++ t1 = t8 := HT8.out.symm; subst e8; clear HT8 HY7 HO7 HB7 HB8))
              have htt : (t0 ++ t1).length = t0.length + t1.length := List.length_append
              have HTm := Lib.hid (fun x (h : x ∈ t0 ++ t1) => (List.mem_append.1 h).elim (fun h => (HW0.out x h).2) (fun h => (HW1.out x h).2))
              generalize t0 ++ t1 = T at *
              have henc := encode_none HE3.out A8 c8 w8.heap.size w8 (ownI_rd HO8.out) (Nat.le_refl _) (by omega) HTm.out (HF.out _ HB80.out)
              rw [← htt]
              refine henc.mono ?_
              rintro e w9 ⟨rfl, HB89⟩
              clear henc
              have HB90 := Lib.hid (HB80.out.trans (HB89.out.mono HB80.out.size))
              go_wp2_with fail
              go_ret
              exact ⟨rfl, HB90.out⟩
theorem walk_CodeJoins (A : Option Addr) (c : Nat) (ys : List Ins) (A' : Option Addr) (c' : Nat) (ys' : List Ins) (w : World) (hr : Rd w w.heap.size A (ci ys)) (hok : insOk ys) (hc : ys.length ≤ c) (hr' : Rd w w.heap.size A' (ci ys')) (hok' : insOk ys') (hc' : ys'.length ≤ c') (hT : FormsAt w ∧ EnvC w) :
    Calls Tryd.prog 5 #[.slice A ys.length c, .slice A' ys'.length c'] w fun e w' => e = .returned (.bool true) ∧ Below w.heap.size w w' :=
  walkp_CodeJoins A c ys A' c' ys' w hr hc hok hr' hc' hok' hT.1 (fun w' hb => tab_belowC hT.2 hb) (awake14_any w (fun w' hb => hT.1.below hb) (fun w' hb => tab_belowC hT.2 hb))
end Go.Proofs.YtghnpmhidcfghaaDoor.Fl

