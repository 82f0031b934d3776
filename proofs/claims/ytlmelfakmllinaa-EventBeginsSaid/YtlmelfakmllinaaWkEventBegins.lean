/-
  The law EventBegins: true for every two rows of events.
-/
import Derived.Test.YtlmelfakmllinaaEvJ
import Derived.Test.YtlmelfakmllinaaEvL
namespace Go.Proofs.Ytlmelfakmllinaa.Fl
open Go.RowKit

theorem sameE_symm (x y : Ev) : sameE x y = sameE y x := by
  unfold sameE
  rw [show (x.kd == y.kd) = (y.kd == x.kd) from Bool.beq_comm, show (lineE x == lineE y) = (lineE y == lineE x) from Bool.beq_comm]
theorem commE_symm (l m : List Ev) : commE l m = commE m l := by
  induction l generalizing m with
  | nil => cases m <;> rfl
  | cons x l ih =>
    cases m with
    | nil => rfl
    | cons y m => rw [commE, commE, sameE_symm, ih]
theorem commE_app (l m : List Ev) : commE l (l ++ m) = l.length := by rw [commE_symm, commE_self]
set_option maxRecDepth 100000 in
theorem prefix_any (xs ys : List EE) (A A2 : Option Addr) (c c2 B : Nat) (w : World) (h : EvsAt w B A xs) (h2 : EvsAt w B A2 ys) (hB : B ≤ w.heap.size) (hl : xs.length ≤ 40 ∧ ys.length ≤ 40) :
    Calls Try.prog 18 #[.slice A xs.length c, .slice A2 ys.length c2] w fun e w' => e = .returned (.bool (decide (commE (evs xs) (evs ys) = xs.length))) ∧ Below w.heap.size w w' := by
  have hc := common_any xs ys A A2 c c2 B w h h2 hB hl
  clear h h2
  generalize commE (evs xs) (evs ys) = n at *
  by_cases hn : n = xs.length
  · subst hn
    go_enter Try.func18, Try.ntmps18
    go_wp2_with (go_at_call 17; refine hc.mono ?_; rintro e w2 ⟨rfl, hb2⟩; clear hc)
    go_ret
    exact ⟨by simp, hb2⟩
  · have hn' : ¬ ((n : Int) = (xs.length : Int)) := by omega
    have hd : decide (n = xs.length) = false := by simp [hn]
    rw [hd]
    clear hd hn
    go_enter Try.func18, Try.ntmps18
    go_wp2_with (go_at_call 17; refine hc.mono ?_; rintro e w2 ⟨rfl, hb2⟩; clear hc)
    go_ret
    exact ⟨by simp [hn'], hb2⟩
set_option maxRecDepth 100000 in
set_option maxHeartbeats 8000000 in
theorem walk_EventBegins (Aa : Option Addr) (ca : Nat) (la : List EE) (Ab : Option Addr) (cb' : Nat) (lb : List EE) (w : World) (ha : Rd w w.heap.size Aa (ee_ la)) (hab : EvBs w w.heap.size la) (hb : Rd w w.heap.size Ab (ee_ lb)) (hbb : EvBs w w.heap.size lb) :
    Calls Try.prog 4 #[.slice Aa la.length ca, .slice Ab lb.length cb'] w fun e w' => e = .returned (.bool true) ∧ Below w.heap.size w w' := by
  have haw := awake_anyE w
  have HoA := Lib.hid (fun (w' : World) (h : Below w.heap.size w w') => own_anyE la Aa ca w.heap.size w' (ha.below h (Nat.le_refl _)) (hab.below h (Nat.le_refl _)) h.size)
  have HoB := Lib.hid (fun (w' : World) (h : Below w.heap.size w w') => own_anyE lb Ab cb' w.heap.size w' (hb.below h (Nat.le_refl _)) (hbb.below h (Nat.le_refl _)) h.size)
  clear ha hab hb hbb
  go_enter Try.func4, Try.ntmps4
  go_upto_region 4 with (first
    | (go_at_call 6; refine haw.mono ?_; rintro e w1 ⟨rfl, hb1⟩; have HB1 := Lib.hid hb1; have hoA := HoA.out w1 hb1; clear haw hb1)
    | (go_at_call 7; first
        | (refine hoA.mono ?_; rintro e w2 ⟨xs, Ax, cx, rfl, hxe, hxo, hxb, hb2⟩; have HXe := Lib.hid hxe; have HXo := Lib.hid hxo; have HXb := Lib.hid hxb; have HB2 := Lib.hid (HB1.out.trans (hb2.mono HB1.out.size)); have hoB := HoB.out w2 HB2.out; clear hoA hxe hxo hxb hb2)
        | (refine hoB.mono ?_; rintro e w3 ⟨ys, Ay, cy, rfl, hye, hyo, hyb, hb3⟩; have HYe := Lib.hid hye; have HYo := Lib.hid hyo; have HYb := Lib.hid hyb; have HX3 := Lib.hid (HXo.out.below hb3); have HXb3 := Lib.hid (HXb.out.below hb3); have HB3 := Lib.hid (HB2.out.trans (hb3.mono HB2.out.size)); clear hoB hye hyo hyb hb3)))
  have hxs : ∀ x ∈ xs, smallE x.1 := fun x hx => ownE_small _ _ (by rw [← HXe.out]; exact List.mem_map_of_mem hx)
  have hys : ∀ x ∈ ys, smallE x.1 := fun x hx => ownE_small _ _ (by rw [← HYe.out]; exact List.mem_map_of_mem hx)
  have hxl : xs.length ≤ 20 := by have := ownE_len (evs la); rw [← HXe.out, List.length_map] at this; exact this
  have hyl : ys.length ≤ 20 := by have := ownE_len (evs lb); rw [← HYe.out, List.length_map] at this; exact this
  have HX := Lib.hid (evsAt_own HX3.out HXb3.out hxs)
  have HY := Lib.hid (evsAt_own HYo.out HYb.out hys)
  have hnx := (ownV_rd HX3.out).2.2
  have hny := (ownV_rd HYo.out).2.2
  clear HX3 HXb3 HYo HYb HXo HXb HoA HoB HB1 HB2 HXe HYe
  have hta := told_anyE xs Ax cx w3.heap.size w3 HX.out (Nat.le_refl _) (by omega)
  have HTb := Lib.hid (fun (w' : World) (h : Below w3.heap.size w3 w') => told_anyE ys Ay cy w3.heap.size w' (HY.out.below h (Nat.le_refl _)) h.size (by omega))
  go_upto_region 5 with (first
    | (go_at_call 8; first
        | (refine hta.mono ?_; rintro e w4 ⟨A4, c4, rfl, ho4, hb4⟩; have HO4 := Lib.hid ho4; have HB4 := Lib.hid hb4; have htb := HTb.out w4 hb4; clear hta ho4 hb4)
        | (refine htb.mono ?_; rintro e w5 ⟨A5, c5, rfl, ho5, hb5⟩; have HO5 := Lib.hid ho5; have HB5 := Lib.hid (HB4.out.trans (hb5.mono HB4.out.size)); have HO45 := Lib.hid (HO4.out.below hb5)
           have hrc := rcommon_any xs ys A4 A5 c4 c5 w5.heap.size w5 ⟨ownRv_rd HO45.out, ((HX.out.below HB5.out (Nat.le_refl _)).bs).more HB5.out.size, hxs⟩ ⟨ownRv_rd HO5.out, ((HY.out.below HB5.out (Nat.le_refl _)).bs).more HB5.out.size, hys⟩ (Nat.le_refl _) ⟨by omega, by omega⟩
           clear htb ho5 hb5))
    | (go_at_call 16; refine hrc.mono ?_; rintro e w6 ⟨rfl, hb6⟩; have HB6 := Lib.hid (HB5.out.trans (hb6.mono HB5.out.size)); clear hrc hb6))
  have hov : OwnV (w6.alloc (.cells #[] 45)) w6.heap.size (.slice (some ⟨w6.heap.size, 0, none⟩) 0 0) [] := own_void w6 45 3 w6.heap.size (Nat.le_refl _)
  have hbv : Below w6.heap.size w6 (w6.alloc (.cells #[] 45)) := (Below.refl _ _).alloc (Nat.le_refl _) _
  have hrx := (HX.out.below (HB6.out.trans (hbv.mono HB6.out.size)) (Nat.le_refl _)).rd.more (Nat.le_trans HB6.out.size hbv.size)
  have HBv := Lib.hid hbv
  have hsv := hbv.size
  have hl0 : ([] : List EE).length ≤ 1000000 := by decide
  have hx6 : xs.length ≤ 1000000 := by omega
  have hy6 : ys.length ≤ 1000000 := by omega
  have hs6 := HB6.out.size
  clear hbv
  go_upto_region 6 with (at_builtin; first
    | (refine wpList_append_ev (base := w6.heap.size) (v := .slice (some ⟨w6.heap.size, 0, none⟩) 0 0) (xs := []) (news := xs) rfl _ _ rfl rfl rfl hov hrx hnx hl0 hx6 hsv ?_
       intro A7 t7 c7 w7 HT7 HV7 HK7
       have HB7 := Lib.hid (HBv.out.trans HK7.out.1)
       have hov7 := HV7.out
       have hr7 := (HY.out.below (HB6.out.trans (HB7.out.mono HB6.out.size)) (Nat.le_refl _)).rd.more (Nat.le_trans HB6.out.size HB7.out.size)
       have hs7 := HB7.out.size
       have hl7 : t7.length ≤ 1000000 := by rw [HT7.out]; exact hx6
       clear hov hrx)
    | (refine wpList_append_ev (base := w6.heap.size) (v := .slice A7 t7.length c7) (xs := t7) (news := ys) rfl _ _ rfl rfl rfl hov7 hr7 hny hl7 hy6 hs7 ?_
       intro A8 t8 c8 w8 HT8 HV8 HK8
       have HB8 := Lib.hid (HB7.out.trans HK8.out.1)
       clear hov7 hr7))
  have HT : Hid (t8 = xs ++ ys) := Lib.hid (by rw [HT8.out, HT7.out]; rfl)
  have HW8 := Lib.hid (HB6.out.trans (HB8.out.mono HB6.out.size))
  have HA : Hid (EvsAt w8 w8.heap.size A8 t8) := Lib.hid ⟨(ownV_rd HV8.out).1, by rw [HT.out]; exact ((HX.out.below HW8.out (Nat.le_refl _)).bs.app (HY.out.below HW8.out (Nat.le_refl _)).bs).more HW8.out.size, fun x hx => by rw [HT.out] at hx; exact (List.mem_append.1 hx).elim (hxs x) (hys x)⟩
  have HX8 := Lib.hid ((HX.out.below HW8.out (Nat.le_refl _)).more HW8.out.size)
  have HY8 := Lib.hid ((HY.out.below HW8.out (Nat.le_refl _)).more HW8.out.size)
  have hl8 : t8.length ≤ 40 := by rw [HT.out, List.length_append]; omega
  have HNil : Hid (EvsAt w8 w8.heap.size none []) := Lib.hid ⟨.inl rfl, fun x hx => (by cases hx), fun x hx => (by cases hx)⟩
  have HC1 := Lib.hid (fun (w' : World) (h : Below w8.heap.size w8 w') => common_any xs ys Ax Ay cx cy w8.heap.size w' (HX8.out.below h (Nat.le_refl _)) (HY8.out.below h (Nat.le_refl _)) h.size ⟨by omega, by omega⟩)
  have HC2 := Lib.hid (fun (w' : World) (h : Below w8.heap.size w8 w') => common_any ys xs Ay Ax cy cx w8.heap.size w' (HY8.out.below h (Nat.le_refl _)) (HX8.out.below h (Nat.le_refl _)) h.size ⟨by omega, by omega⟩)
  have HP1 := Lib.hid (fun (w' : World) (h : Below w8.heap.size w8 w') => prefix_any xs ys Ax Ay cx cy w8.heap.size w' (HX8.out.below h (Nat.le_refl _)) (HY8.out.below h (Nat.le_refl _)) h.size ⟨by omega, by omega⟩)
  have HP2 := Lib.hid (fun (w' : World) (h : Below w8.heap.size w8 w') => prefix_any xs t8 Ax A8 cx c8 w8.heap.size w' (HX8.out.below h (Nat.le_refl _)) (HA.out.below h (Nat.le_refl _)) h.size ⟨by omega, hl8⟩)
  have HP3 := Lib.hid (fun (w' : World) (h : Below w8.heap.size w8 w') => prefix_any [] ys none Ay 0 cy w8.heap.size w' (HNil.out.below h (Nat.le_refl _)) (HY8.out.below h (Nat.le_refl _)) h.size ⟨by decide, by omega⟩)
  rw [commE_symm (evs ys) (evs xs)] at HC2
  rw [show evs t8 = evs xs ++ evs ys by rw [HT.out]; exact List.map_append, commE_app, List.length_map, show decide (xs.length = xs.length) = true by simp] at HP2
  rw [show decide (commE (evs []) (evs ys) = ([] : List EE).length) = true by cases ys <;> rfl] at HP3
  have HB0 := Lib.hid (HB3.out.trans (HW8.out.mono HB3.out.size))
  clear HT7 HV7 HK7 HT8 HV8 HK8 HB7 HBv HX HY HA HX8 HY8 HB3 HB4 HB5 HB6 HB8 HW8 HT hxs hys hnx hny hl0 hx6 hy6 HNil HTb HO4 HO5 HO45 hsv hs6 hl8
  generalize commE (evs xs) (evs ys) = n at *
  have hc1 := HC1.out w8 (Below.refl _ _)
  by_cases hn : n = xs.length
  · skip
    rw [show decide (n = xs.length) = true by simp [hn]] at HP1
    subst hn
    go_wp2_with (first
      | (go_at_call 17; first
          | (refine hc1.mono ?_; rintro e w9 ⟨rfl, hb9⟩; have HB9 := Lib.hid hb9; have hc2 := HC2.out w9 hb9; clear hc1 hb9)
          | (refine hc2.mono ?_; rintro e w10 ⟨rfl, hb10⟩; have HB10 := Lib.hid (HB9.out.trans (hb10.mono HB9.out.size)); have hp1 := HP1.out w10 HB10.out; clear hc2 hb10))
      | (go_at_call 18; first
          | (refine hp1.mono ?_; rintro e w11 ⟨rfl, hb11⟩; have HB11 := Lib.hid (HB10.out.trans (hb11.mono HB10.out.size)); have hp2 := HP2.out w11 HB11.out; clear hp1 hb11)
          | (refine hp2.mono ?_; rintro e w12 ⟨rfl, hb12⟩; have HB12 := Lib.hid (HB11.out.trans (hb12.mono HB11.out.size)); have hp3 := HP3.out w12 HB12.out; clear hp2 hb12)
          | (refine hp3.mono ?_; rintro e w13 ⟨rfl, hb13⟩; have HB13 := Lib.hid (HB0.out.trans ((HB12.out.trans (hb13.mono HB12.out.size)).mono HB0.out.size)); clear hp3 hb13)))
    go_ret
    exact ⟨rfl, HB13.out⟩
  · have hn' : ¬ ((n : Int) = (xs.length : Int)) := by omega
    rw [show decide (n = xs.length) = false by simp [hn]] at HP1
    clear hn
    go_wp2_with (first
      | (go_at_call 17; first
          | (refine hc1.mono ?_; rintro e w9 ⟨rfl, hb9⟩; have HB9 := Lib.hid hb9; have hc2 := HC2.out w9 hb9; clear hc1 hb9)
          | (refine hc2.mono ?_; rintro e w10 ⟨rfl, hb10⟩; have HB10 := Lib.hid (HB9.out.trans (hb10.mono HB9.out.size)); have hp1 := HP1.out w10 HB10.out; clear hc2 hb10))
      | (go_at_call 18; first
          | (refine hp1.mono ?_; rintro e w11 ⟨rfl, hb11⟩; have HB11 := Lib.hid (HB10.out.trans (hb11.mono HB10.out.size)); have hp2 := HP2.out w11 HB11.out; clear hp1 hb11)
          | (refine hp2.mono ?_; rintro e w12 ⟨rfl, hb12⟩; have HB12 := Lib.hid (HB11.out.trans (hb12.mono HB11.out.size)); have hp3 := HP3.out w12 HB12.out; clear hp2 hb12)
          | (refine hp3.mono ?_; rintro e w13 ⟨rfl, hb13⟩; have HB13 := Lib.hid (HB0.out.trans ((HB12.out.trans (hb13.mono HB12.out.size)).mono HB0.out.size)); clear hp3 hb13)))
    go_ret
    exact ⟨by simp [hn'], HB13.out⟩
end Go.Proofs.Ytlmelfakmllinaa.Fl
