/-
  CodeEncodes' walk.
-/
import Derived.Test.YtghnpmhidcfghaaDoorIns
import Derived.WalkSmall
namespace Go.Proofs.YtghnpmhidcfghaaDoor.Fl
open Go.RowKit

theorem encR_ins : ∀ (l : List Ins) (k : Nat) (h : k < l.length) (bs : List UInt8), encR l = some bs → ∃ pre cs, bs = pre ++ enc1 l[k] ++ cs ∧ isI l[k].1 l[k].2.1 l[k].2.2 = true ∧ encR (l.drop (k + 1)) = some cs ∧ encR (l.drop k) = some (enc1 l[k] ++ cs)
  | x :: l, 0, h, bs, he => by
    obtain ⟨hi, cs, hcs, rfl⟩ := encR_cons he
    exact ⟨[], cs, rfl, hi, hcs, he⟩
  | x :: l, k + 1, h, bs, he => by
    obtain ⟨hi, cs, hcs, rfl⟩ := encR_cons he
    obtain ⟨pre, ds, rfl, h1, h2, h3⟩ := encR_ins l k (by simpa using h) cs hcs
    exact ⟨enc1 x ++ pre, ds, by simp, h1, h2, h3⟩
theorem ci_take (l : List Ins) (n : Nat) : ∀ (j : Nat) (v : Value), (ci (l.take n))[j]? = some v → (ci l)[j]? = some v := fun j v h => by
  have hj : j < (ci (l.take n)).length := by
    rcases Nat.lt_or_ge j (ci (l.take n)).length with h1 | h1
    · exact h1
    · rw [List.getElem?_eq_none h1] at h; cases h
  have e : ci l = ci (l.take n) ++ ci (l.drop n) := by rw [← ci_app, List.take_append_drop]
  rw [e, List.getElem?_append_left hj]
  exact h
theorem rdI_take {w : World} {B : Nat} {A : Option Addr} {xs : List Ins} (h : Rd w B A (ci xs)) (n : Nat) : Rd w B A (ci (xs.take n)) := by
  rcases h with h | ⟨g, off, rfl, hb, hc⟩
  · have : xs = [] := by
      have := congrArg List.length h
      rw [ci_len] at this
      exact List.eq_nil_of_length_eq_zero (by simp only [List.length_nil] at this; omega)
    subst this
    exact .inl (by simp [ci])
  · exact .inr ⟨g, off, rfl, hb, fun j v hj => hc j v (ci_take xs n j v hj)⟩
theorem eq_insC (a b c a' b' c' : Int) (w : World) : (Op.equalIn 10000 27 (.agg #[.int .i64 a, .int .i64 b, .int .i64 c]) (.agg #[.int .i64 a', .int .i64 b', .int .i64 c'])).run Tryd.prog w = .ok (a == a' && b == b' && c == c') w :=
  have hS : Tryd.prog.underlying 27 = some (.struct (Tryd.prog.fieldsOf 27)) := by kernel_rfl
  by
  rw [show (10000 : Nat) = 9999 + 1 from rfl, run_equalIn_agg w 9999 27 _ _ hS (by kernel_rfl)]
  simp only [Program.fieldsOf, Tryd.underlying27]
  go_simp
  by_cases h1 : a = a' <;> by_cases h2 : b = b' <;> by_cases h3 : c = c' <;> simp [h1, h2, h3]
theorem eq_insS (a b c : Int) (w : World) : (Op.equalIn 10000 27 (.agg #[.int .i64 a, .int .i64 b, .int .i64 c]) (.agg #[.int .i64 a, .int .i64 b, .int .i64 c])).run Tryd.prog w = .ok true w := by
  rw [eq_insC]; simp
set_option maxRecDepth 100000 in
set_option maxHeartbeats 4000000 in
theorem walkp_CodeEncodes (A : Option Addr) (c : Nat) (ys : List Ins) (w : World) (hr : Rd w w.heap.size A (ci ys)) (hc : ys.length ≤ c) (hok : insOk ys) (hF : FormsAt w) (haw1 : Calls Tryd.prog 6 #[] w fun e w' => e = .returned (.bool true) ∧ Below w.heap.size w w') :
    Calls Tryd.prog 3 #[.slice A ys.length c] w fun e w' => e = .returned (.bool true) ∧ Below w.heap.size w w' := by
  have HR := Lib.hid hr
  have HK := Lib.hid hok
  have HF := Lib.hid (fun w' (h : Below w.heap.size w w') => hF.below h)
  clear hr hok hF
  go_enter Tryd.func3, Tryd.ntmps3
  go_wp2_with fail
  refine haw1.mono ?_
  rintro e w1 ⟨rfl, hb1⟩
  clear haw1
  have HB1 := Lib.hid hb1
  obtain ⟨xs, hxs⟩ : ∃ xs, ys.take 100 = xs := ⟨_, rfl⟩
  have hxl : xs.length ≤ 100 := by rw [← hxs, List.length_take]; omega
  have HX := Lib.hid (show xs.length = if 100 < ys.length then 100 else ys.length by
    rw [← hxs, List.length_take]; split <;> omega)
  have HRx := Lib.hid (show Rd w w.heap.size A (ci xs) by rw [← hxs]; exact rdI_take HR.out 100)
  have HKx := Lib.hid (show insOk xs from fun x hx => HK.out x (List.mem_of_mem_take (by rw [hxs]; exact hx)))
  clear hxs hb1 HR HK
  generalize ys.length = len at *
  go_upto_if 20 with fail
  go_cut [0] (fun v wx => (∃ c', v = .slice A xs.length c') ∧ w1 = wx)
  case first =>
    by_cases hcc : 100 < len
    · have hx2 := HX.out
      rw [if_pos hcc] at hx2
      have hx3 := Lib.hid hx2
      clear hx2
      go_wp2_with fail
      all_goals go_meet
      all_goals exact ⟨⟨c, by rw [hx3.out]⟩, rfl⟩
    · have hx2 := HX.out
      rw [if_neg hcc] at hx2
      have hx3 := Lib.hid hx2
      clear hx2
      go_wp2_with fail
      all_goals go_meet
      all_goals exact ⟨⟨c, by rw [hx3.out]⟩, rfl⟩
  case rest =>
    obtain ⟨⟨c', rfl⟩, rfl⟩ := hcut
    clear HX hc
    go_wp2_with fail
    go_loopw [3, 25] (fun v3 v25 wr => ∃ (k : Nat) (A' : Option Addr) (c2 : Nat), k ≤ xs.length ∧ v3 = .slice A' (xs.take k).length c2 ∧ v25 = .int .i64 (k : Int) ∧ Hid (OwnI wr w.heap.size (.slice A' (xs.take k).length c2) (xs.take k)) ∧ Hid (Below w.heap.size w wr)) (fun _ v25 _ => xs.length - (intOf v25).toNat)
    case atStart => exact ⟨0, none, 0, Nat.zero_le _, rfl, rfl, Lib.hid (ownI_nil _ _), HB1⟩
    case round =>
      obtain ⟨k, A', c2, hk, rfl, rfl, HO, HB⟩ := hrel
      clear HB1
      obtain ⟨ts, hts⟩ : ∃ ts, xs.take k = ts := ⟨_, rfl⟩
      have HTs := Lib.hid hts
      have htl : ts.length ≤ 100 := by rw [← hts, List.length_take]; omega
      rw [hts] at HO ⊢
      clear hts
      by_cases hlt : k < xs.length
      · obtain ⟨op, a, b, he⟩ : ∃ op a b, xs[k] = (op, a, b) := ⟨_, _, _, rfl⟩
        have HT2 : Hid (xs.take (k + 1) = ts ++ [(op, a, b)]) := Lib.hid (by rw [List.take_succ_eq_append_getElem hlt, HTs.out, he])
        obtain ⟨g, off, rfl, hg, c0, c1, c2⟩ := rdI_at (HRx.out.below HB.out (Nat.le_refl _)) hlt he
        have hgw := Nat.lt_of_lt_of_le hg HB.out.size
        have hb1 : Below wr.heap.size wr (wr.alloc (.cells #[.int .i64 op, .int .i64 a, .int .i64 b] 26)) := (Below.refl _ _).alloc (Nat.le_refl _) _
        have hw1 := heap_alloc_new wr (.cells #[.int .i64 op, .int .i64 a, .int .i64 b] 26)
        have f1 := three_cellsC hw1
        have hown := own_any op a b (wr.alloc (.cells #[.int .i64 op, .int .i64 a, .int .i64 b] 26))
        unfold insV at hown
        have HB2 := Lib.hid (HB.out.trans (hb1.mono HB.out.size))
        have HO2 := Lib.hid (HO.out.below hb1)
        clear hb1 hw1 he
        go_wp2_with fail
        refine hown.mono ?_
        rintro e w3 ⟨rfl, hb3⟩
        have HB3 := Lib.hid (HB2.out.trans (hb3.mono HB2.out.size))
        have HO3 := Lib.hid (HO2.out.below hb3)
        have HO4 := Lib.hid (HO3.out.below ((Below.refl w3.heap.size w3).alloc (Nat.le_refl _) (.cells #[.int .i64 op, .int .i64 a, .int .i64 b] 27)))
        have HR4 := Lib.hid (rd_oneI w3 op a b)
        have hs3 := HB3.out.size
        clear hown hb3 HB2 HO2 HB HO f1 c0 c1 c2
        go_wp2_with (at_builtin; refine wpList_append_i (base := w.heap.size) (v := .slice A' ts.length _) (xs := ts) (news := [(op, a, b)]) rfl _ _ rfl rfl rfl HO4.out HR4.out (fun h => by cases h) (by omega) (by simp) (by rw [World.size_alloc]; omega) ?_; intro A5 t5 c5 w5 HT5 HO5 HB5; have HB6 := Lib.hid ((HB3.out.alloc (by omega) (.cells #[.int .i64 op, .int .i64 a, .int .i64 b] 27)).trans HB5.out.1); have HT6 : Hid (xs.take (k + 1) = t5) := Lib.hid (by rw [HT5.out, HT2.out]))
        go_roundw
        case rel => exact ⟨k + 1, A5, c5, hlt, by rw [HT6.out], rfl, Lib.hid (by rw [HT6.out]; exact HO5.out), HB6⟩
        case measure => simp [intOf]; omega
      · have htx : ts = xs := by rw [← HTs.out]; exact List.take_of_length_le (by omega)
        subst htx
        obtain rfl : k = ts.length := by omega
        have henc := encode_any ts A' c2 wr.heap.size wr (ownI_rd HO.out) (Nat.le_refl _) (by omega) (fun x hx => (HKx.out x hx).2) (HF.out _ HB.out)
        clear HTs hlt htl hk
        go_wp2_with fail
        refine henc.mono ?_
        rintro e w6 ⟨hb6, hcase⟩
        have HB6 := Lib.hid (HB.out.trans (hb6.mono HB.out.size))
        have HO6 := Lib.hid (HO.out.below hb6)
        have hrenc := rencode_any ts A c' w.heap.size w6 (HRx.out.below HB6.out (Nat.le_refl _)) HB6.out.size (by omega) HKx.out
        rcases hcase with ⟨bs, A6, c6, hbs, hbl, rfl, hO6⟩ | ⟨hno, rfl⟩
        · have HB6b := Lib.hid hO6
          clear henc hb6 hO6 HO HB
          go_wp2_with fail
          refine hrenc.mono ?_
          rintro e w7 ⟨hb7, hcase⟩
          obtain ⟨bs7, A7, c7, hbs7, _, rfl, hO7⟩ | ⟨hno, _⟩ := hcase
          rotate_left 1
          · rw [hbs] at hno; cases hno
          obtain rfl : bs = bs7 := by rw [hbs] at hbs7; injection hbs7
          have HB7 := Lib.hid (HB6.out.trans (hb7.mono HB6.out.size))
          have HO7 := Lib.hid (HO6.out.below hb7)
          have HOb := Lib.hid (HB6b.out.below hb7)
          have HBS := Lib.hid hbs
          have heq := equalC bs c6 c7 w7.heap.size w7.heap.size A6 A7 w7 (ownB_rd HOb.out).1 (ownB_rd hO7).1
          clear hrenc hb7 hO7 HO6 HB6 HB6b hbs hbs7
          go_wp2_with (first | (go_at_call 10; refine heq.mono ?_; rintro e w8 ⟨rfl, rfl⟩))
          clear heq
          go_loopw [10, 61] (fun v10 v61 wr => ∃ (k q : Nat), k ≤ ts.length ∧ q ≤ bs.length ∧ v10 = .int .i64 (q : Int) ∧ v61 = .int .i64 (k : Int) ∧ Hid (∃ pre cs, bs = pre ++ cs ∧ pre.length = q ∧ encR (ts.drop k) = some cs) ∧ Hid (Below w7.heap.size w7 wr)) (fun _ v61 _ => ts.length - (intOf v61).toNat)
          case atStart => exact ⟨0, 0, Nat.zero_le _, Nat.zero_le _, rfl, rfl, Lib.hid ⟨[], bs, rfl, rfl, by rw [List.drop_zero]; exact HBS.out⟩, Lib.hid (Below.refl _ _)⟩
          case round =>
            obtain ⟨k, q, hk, hq, rfl, rfl, HP, HBr⟩ := hrel
            by_cases hlt : k < ts.length
            · obtain ⟨op, a, b, he⟩ : ∃ op a b, ts[k] = (op, a, b) := ⟨_, _, _, rfl⟩
              obtain ⟨pre, cs, hpc, hpl, hcs⟩ := HP.out
              rw [List.drop_eq_getElem_cons hlt, he] at hcs
              obtain ⟨hi, ds, hds, hcd⟩ := encR_cons hcs
              have hde := dec_enc hi pre ds
              rw [List.append_assoc, ← hcd, ← hpc, hpl] at hde
              have hlen : q + (enc1 (op, a, b)).length ≤ bs.length := by rw [hpc, hcd, List.length_append, List.length_append]; omega
              have HP2 : Hid (∃ pre' cs', bs = pre' ++ cs' ∧ pre'.length = q + (enc1 (op, a, b)).length ∧ encR (ts.drop (k + 1)) = some cs') := Lib.hid ⟨pre ++ enc1 (op, a, b), ds, by rw [hpc, hcd, List.append_assoc], by rw [List.length_append, hpl], hds⟩
              obtain ⟨g, off, rfl, hg, d0, d1, d2⟩ := rdI_at ((ownI_rd HO7.out).below HBr.out (Nat.le_refl _)) hlt he
              have hgw := Nat.lt_of_lt_of_le hg HBr.out.size
              have hb1 : Below wr.heap.size wr (wr.alloc (.cells #[.int .i64 op, .int .i64 a, .int .i64 b] 27)) := (Below.refl _ _).alloc (Nat.le_refl _) _
              have hw1 := heap_alloc_new wr (.cells #[.int .i64 op, .int .i64 a, .int .i64 b] 27)
              have l1 := lt_of_blkC hw1
              have HB2 := Lib.hid (HBr.out.trans (hb1.mono HBr.out.size))
              have hOr := ownB_rd (HOb.out.below HB2.out)
              have hdec := decode_any bs (q : Int) A6 c6 _ _ hOr.1 (Nat.le_refl _) hOr.2.2.2 (by omega) (HF.out _ (HB7.out.trans (HB2.out.mono HB7.out.size)))
              rw [hde] at hdec
              generalize (enc1 (op, a, b)).length = m at *
              clear hpc hpl hcs hds hcd hde he hOr HP hi hb1
              go_wp2_with fail
              refine hdec.mono ?_
              rintro e w3 ⟨hb3, hcase⟩
              obtain ⟨x, p, hxp, rfl⟩ | ⟨n, hxp, _⟩ := hcase
              rotate_left 1
              · cases hxp
              obtain ⟨rfl, rfl⟩ : x = (op, a, b) ∧ p = q + m := by cases hxp; exact ⟨rfl, rfl⟩
              have hw3 := (hb3.block _ l1).trans hw1
              have l3 := lt_of_blkC hw3
              have hw4 := (Below.heap_alloc w3 (.cells #[.int .i64 op, .int .i64 a, .int .i64 b] 27) _ l3).trans hw3
              have f4 := three_cellsC hw4
              have f5 := three_cellsC (heap_alloc_new w3 (.cells #[.int .i64 op, .int .i64 a, .int .i64 b] 27))
              have HB3 := Lib.hid (HB2.out.trans (hb3.mono HB2.out.size))
              have HB4 := Lib.hid (HB3.out.alloc HB3.out.size (.cells #[.int .i64 op, .int .i64 a, .int .i64 b] 27))
              have heqI := fun w => eq_insS op a b w
              clear hdec hb3 hxp hw3 hw4 HB3 HB2 HBr hw1 d0 d1 d2
              unfold insV
              go_wp2_with fail
              go_roundw
              case rel => exact ⟨k + 1, q + m, hlt, hlen, by simp, rfl, HP2, HB4⟩
              case measure => simp [intOf]; omega
            · obtain rfl : k = ts.length := by omega
              obtain ⟨pre, cs, hpc, hpl, hcs⟩ := HP.out
              rw [List.drop_of_length_le (Nat.le_refl _), encR] at hcs
              injection hcs with hcs
              subst hcs
              rw [List.append_nil] at hpc
              subst hpc
              subst hpl
              have HBe := Lib.hid (HB7.out.trans (HBr.out.mono HB7.out.size))
              clear hlt HP
              go_wp2_with fail
              go_ret
              exact ⟨rfl, HBe.out⟩
        · clear henc hb6 HO6 HO HB
          go_wp2_with fail
          refine hrenc.mono ?_
          rintro e w7 ⟨hb7, hcase⟩
          obtain ⟨bs7, A7, c7, hbs7, _, rfl, hO7⟩ | ⟨_, rfl⟩ := hcase
          · rw [hno] at hbs7; cases hbs7
          have HB7 := Lib.hid (HB6.out.trans (hb7.mono HB6.out.size))
          have heq := equalC [] 0 0 0 0 none none w7 (.inl rfl) (.inl rfl)
          rw [show ([] : List UInt8).length = 0 from rfl] at heq
          clear hrenc hb7 HB6 hno
          go_wp2_with (first | (go_at_call 10; refine heq.mono ?_; rintro e w8 ⟨rfl, rfl⟩))
          go_ret
          exact ⟨rfl, HB7.out⟩
theorem gPowC : Tryd.prog.globalNamed "internal/strconv.uint64pow10" = some 1 := by kernel_rfl
theorem var_ltC {w : World} {n : String} {g : Nat} {cs : Array Value} (hg : Tryd.prog.globalNamed n = some g) (h : w.var? Tryd.prog n = some cs) : g < w.heap.size := by
  rcases Nat.lt_or_ge g w.heap.size with hlt | hge
  · exact hlt
  · exfalso
    unfold World.var? at h
    rw [hg] at h
    simp [Array.getElem?_eq_none hge] at h
theorem tab_belowC {w w' : World} (h : EnvC w) (hb : Below w.heap.size w w') : EnvC w' := var?_below hb gPowC (var_ltC gPowC h) h
theorem walk_CodeEncodes (A : Option Addr) (c : Nat) (ys : List Ins) (w : World) (hr : Rd w w.heap.size A (ci ys)) (hok : insOk ys) (hc : ys.length ≤ c) (hT : FormsAt w ∧ EnvC w) :
    Calls Tryd.prog 3 #[.slice A ys.length c] w fun e w' => e = .returned (.bool true) ∧ Below w.heap.size w w' :=
  walkp_CodeEncodes A c ys w hr hc hok hT.1 (awake14_any w (fun w' hb => hT.1.below hb) (fun w' hb => tab_belowC hT.2 hb))
end Go.Proofs.YtghnpmhidcfghaaDoor.Fl

