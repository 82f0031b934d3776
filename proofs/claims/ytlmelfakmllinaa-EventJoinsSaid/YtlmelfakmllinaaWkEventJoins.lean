/-
  The law EventJoins: true for every two rows of events.
-/
import Derived.Test.YtlmelfakmllinaaEvJ
namespace Go.Proofs.Ytlmelfakmllinaa.Fl
open Go.RowKit

theorem app_bytesE (l m : List UInt8) : (⟨(l ++ m).toArray⟩ : ByteArray) = ⟨l.toArray⟩ ++ ⟨m.toArray⟩ := by
  apply ByteArray.ext
  simp [ByteArray.data_append]
set_option maxRecDepth 100000 in
set_option maxHeartbeats 8000000 in
theorem walkJ (la lb : List EE) (Aa Ab : Option Addr) (ca cb' : Nat) (w : World) (ha : Rd w w.heap.size Aa (ee_ la)) (hab : EvBs w w.heap.size la) (hb : Rd w w.heap.size Ab (ee_ lb)) (hbb : EvBs w w.heap.size lb) :
    Calls Try.prog 5 #[.slice Aa la.length ca, .slice Ab lb.length cb'] w fun e w' => e = .returned (.bool true) ∧ Below w.heap.size w w' := by
  have haw := awake_anyE w
  have HoA := Lib.hid (fun (w' : World) (h : Below w.heap.size w w') => own_anyE la Aa ca w.heap.size w' (ha.below h (Nat.le_refl _)) (hab.below h (Nat.le_refl _)) h.size)
  have HoB := Lib.hid (fun (w' : World) (h : Below w.heap.size w w') => own_anyE lb Ab cb' w.heap.size w' (hb.below h (Nat.le_refl _)) (hbb.below h (Nat.le_refl _)) h.size)
  clear ha hab hb hbb
  go_enter Try.func5, Try.ntmps5
  go_upto_region 4 with (first
    | (go_at_call 6; refine haw.mono ?_; rintro e w1 ⟨rfl, hb1⟩; have HB1 := Lib.hid hb1; have hoA := HoA.out w1 hb1; clear haw hb1)
    | (go_at_call 7; first
        | (refine hoA.mono ?_; rintro e w2 ⟨xs, Ax, cx, rfl, hxe, hxo, hxb, hb2⟩; have HXe := Lib.hid hxe; have HXo := Lib.hid hxo; have HXb := Lib.hid hxb; have HB2 := Lib.hid (HB1.out.trans (hb2.mono HB1.out.size)); have hoB := HoB.out w2 HB2.out; clear hoA hxe hxo hxb hb2)
        | (refine hoB.mono ?_; rintro e w3 ⟨ys, Ay, cy, rfl, hye, hyo, hyb, hb3⟩; have HYe := Lib.hid hye; have HYo := Lib.hid hyo; have HYb := Lib.hid hyb; have HX3 := Lib.hid (HXo.out.below hb3); have HXb3 := Lib.hid (HXb.out.below hb3); have HB3 := Lib.hid (HB2.out.trans (hb3.mono HB2.out.size)); clear hoB hye hyo hyb hb3)))
  have hxs : ∀ x ∈ xs, smallE x.1 := fun x hx => ownE_small _ _ (by rw [← HXe.out]; exact List.mem_map_of_mem hx)
  have hys : ∀ x ∈ ys, smallE x.1 := fun x hx => ownE_small _ _ (by rw [← HYe.out]; exact List.mem_map_of_mem hx)
  have hxl : xs.length ≤ 20 := by have := ownE_len (evs la); rw [← HXe.out, List.length_map] at this; exact this
  have hyl : ys.length ≤ 20 := by have := ownE_len (evs lb); rw [← HYe.out, List.length_map] at this; exact this
  have HX := Lib.hid (evsAt_own HX3.out HXb3.out hxs)
  have HY := Lib.hid (evsAt_own HYo.out HYb.out hys)
  have hnx := (ownV_rd HX3.out).2.2
  have hny := (ownV_rd HYo.out).2.2
  clear HX3 HXb3 HYo HYb HXo HXb HoA HoB HB1 HB2 HXe HYe
  have hov : OwnV (w3.alloc (.cells #[] 45)) w3.heap.size (.slice (some ⟨w3.heap.size, 0, none⟩) 0 0) [] := own_void w3 45 3 w3.heap.size (Nat.le_refl _)
  have hbv : Below w3.heap.size w3 (w3.alloc (.cells #[] 45)) := (Below.refl _ _).alloc (Nat.le_refl _) _
  have hrx := (HX.out.below hbv (Nat.le_refl _)).rd.more hbv.size
  have HBv := Lib.hid hbv
  have hsv := hbv.size
  have hl0 : ([] : List EE).length ≤ 1000000 := by decide
  have hx6 : xs.length ≤ 1000000 := by omega
  have hy6 : ys.length ≤ 1000000 := by omega
  clear hbv
  go_upto_region 5 with (at_builtin; first
    | (refine wpList_append_ev (base := w3.heap.size) (v := .slice (some ⟨w3.heap.size, 0, none⟩) 0 0) (xs := []) (news := xs) rfl _ _ rfl rfl rfl hov hrx hnx hl0 hx6 hsv ?_
       intro A4 t4 c4 w4 HT4 HV4 HK4
       have HB4 := Lib.hid (HBv.out.trans HK4.out.1)
       have hov4 := HV4.out
       have hr4 := (HY.out.below HB4.out (Nat.le_refl _)).rd.more HB4.out.size
       have hs4 := HB4.out.size
       have hl4 : t4.length ≤ 1000000 := by rw [HT4.out]; exact hx6
       clear hov hrx)
    | (refine wpList_append_ev (base := w3.heap.size) (v := .slice A4 t4.length c4) (xs := t4) (news := ys) rfl _ _ rfl rfl rfl hov4 hr4 hny hl4 hy6 hs4 ?_
       intro A5 t5 c5 w5 HT5 HV5 HK5
       have HB5 := Lib.hid (HB4.out.trans HK5.out.1)
       clear hov4 hr4))
  have HT : Hid (t5 = xs ++ ys) := Lib.hid (by rw [HT5.out, HT4.out]; rfl)
  have hbs : EvsAt w5 w5.heap.size A5 t5 := ⟨(ownV_rd HV5.out).1, by rw [HT.out]; exact ((HX.out.below HB5.out (Nat.le_refl _)).bs.app (HY.out.below HB5.out (Nat.le_refl _)).bs).more HB5.out.size, fun x hx => by rw [HT.out] at hx; exact (List.mem_append.1 hx).elim (hxs x) (hys x)⟩
  have HA := Lib.hid hbs
  have HX5 := Lib.hid ((HX.out.below HB5.out (Nat.le_refl _)).more HB5.out.size)
  have HY5 := Lib.hid ((HY.out.below HB5.out (Nat.le_refl _)).more HB5.out.size)
  have hl5 : t5.length ≤ 40 := by rw [HT.out, List.length_append]; omega
  have HTb := Lib.hid (fun (w' : World) (h : Below w5.heap.size w5 w') => text_anyE t5 A5 c5 w5.heap.size w' (HA.out.below h (Nat.le_refl _)) h.size hl5)
  have HTx := Lib.hid (fun (w' : World) (h : Below w5.heap.size w5 w') => text_anyE xs Ax cx w5.heap.size w' (HX5.out.below h (Nat.le_refl _)) h.size (by omega))
  have HTy := Lib.hid (fun (w' : World) (h : Below w5.heap.size w5 w') => text_anyE ys Ay cy w5.heap.size w' (HY5.out.below h (Nat.le_refl _)) h.size (by omega))
  have HSb := Lib.hid (fun (w' : World) (h : Below w5.heap.size w5 w') => shown_anyE t5 A5 c5 w5.heap.size w' (HA.out.below h (Nat.le_refl _)) h.size hl5)
  have HSx := Lib.hid (fun (w' : World) (h : Below w5.heap.size w5 w') => shown_anyE xs Ax cx w5.heap.size w' (HX5.out.below h (Nat.le_refl _)) h.size (by omega))
  have HSy := Lib.hid (fun (w' : World) (h : Below w5.heap.size w5 w') => shown_anyE ys Ay cy w5.heap.size w' (HY5.out.below h (Nat.le_refl _)) h.size (by omega))
  have HCm := Lib.hid (fun (w' : World) (h : Below w5.heap.size w5 w') => common_any t5 xs A5 Ax c5 cx w5.heap.size w' (HA.out.below h (Nat.le_refl _)) (HX5.out.below h (Nat.le_refl _)) h.size ⟨hl5, by omega⟩)
  have HB0 := Lib.hid (HB3.out.trans (HB5.out.mono HB3.out.size))
  have htl := textE_len (evs_small hxs)
  have htl2 := textE_len (evs_small hys)
  have hsl := shownE_len (evs_small hxs)
  have hsl2 := shownE_len (evs_small hys)
  rw [List.length_map] at htl htl2 hsl hsl2
  rw [show evs t5 = evs xs ++ evs ys by rw [HT.out]; exact List.map_append] at HTb HSb HCm
  rw [textE_app] at HTb
  rw [shownE_app] at HSb
  rw [commE_self, List.length_map] at HCm
  clear HT4 HV4 HK4 HT5 HV5 HK5 HB4 HBv HX HY HA HX5 HY5 HB3 HB5 hbs HT hxs hys hnx hny hl0 hx6 hy6 hl5 hsv
  generalize textE (evs xs) = TX at *
  generalize textE (evs ys) = TY at *
  generalize shownE (evs xs) = SX at *
  generalize shownE (evs ys) = SY at *
  have hcl : ¬ 9223372036854775807 < TX.length + TY.length := by omega
  have htb := HTb.out w5 (Below.refl _ _)
  rw [show (⟨(TX ++ TY).toArray⟩ : ByteArray) = ⟨TX.toArray⟩ ++ ⟨TY.toArray⟩ from app_bytesE TX TY] at htb
  go_upto_region 6 with (first
    | (go_at_call 9; first
        | (refine htb.mono ?_; rintro e w6 ⟨rfl, hb6⟩; have HB6 := Lib.hid hb6; have htx := HTx.out w6 hb6; clear htb hb6)
        | (refine htx.mono ?_; rintro e w7 ⟨rfl, hb7⟩; have HB7 := Lib.hid (HB6.out.trans (hb7.mono HB6.out.size)); have hty := HTy.out w7 HB7.out; clear htx hb7)
        | (refine hty.mono ?_; rintro e w8 ⟨rfl, hb8⟩; have HB8 := Lib.hid (HB7.out.trans (hb8.mono HB7.out.size)); have hsb := HSb.out w8 HB8.out; clear hty hb8))
    | (go_at_call 14; first
        | (refine hsb.mono ?_; rintro e w9 ⟨A9, c9, rfl, ho9, hb9⟩; have HO9 := Lib.hid ho9; have HB9 := Lib.hid (HB8.out.trans (hb9.mono HB8.out.size)); have hsx := HSx.out w9 HB9.out; clear hsb ho9 hb9)
        | (refine hsx.mono ?_; rintro e w10 ⟨A10, c10, rfl, ho10, hb10⟩; have HN10 := Lib.hid hb10; have HO10 := Lib.hid ho10; have HB10 := Lib.hid (HB9.out.trans (hb10.mono HB9.out.size)); have hsy := HSy.out w10 HB10.out; clear hsx ho10 hb10)))
  refine hsy.mono ?_
  rintro e w11 ⟨A11, c11, rfl, ho11, hb11⟩
  have HN11 := Lib.hid (HN10.out.trans (hb11.mono HN10.out.size))
  have HB11 := Lib.hid (HB10.out.trans (hb11.mono HB10.out.size))
  have hoa := OwnE_below HO10.out hb11
  obtain ⟨hra, _, hna⟩ := ownE_rd ho11
  have hs11 := HN11.out.size
  have hlx : SX.length ≤ 1000000 := by omega
  have hly : SY.length ≤ 1000000 := by omega
  clear hsy ho11 hb11
  dsimp only
  rename_i K9 hK9 _
  refine hK9 _ _ ?_
  clear hK9
  refine wpList_append_eg (base := w9.heap.size) (v := .slice A10 SX.length c10) (xs := SX) (news := SY) rfl _ _ rfl rfl rfl hoa hra hna hlx hly hs11 ?_
  intro A12 t12 c12 w12 HT12 HO12 HK12
  have HN12 := Lib.hid (HN11.out.trans HK12.out.1)
  have HB12 := Lib.hid (HB9.out.trans (HN12.out.mono HB9.out.size))
  have heq := equal_same t12 c9 c12 w9.heap.size w12.heap.size A9 A12 w12 (by rw [HT12.out]; exact (ownE_rd HO9.out).1.below HN12.out (Nat.le_refl _)) (ownE_rd HO12.out).1
  have htl12 : SX.length + SY.length = t12.length := by rw [HT12.out, List.length_append]
  rw [htl12]
  clear hoa hra hna
  go_wp2_with (first
    | (go_at_call 13; refine heq.mono ?_; rintro e w13 ⟨rfl, rfl⟩; have hcm := HCm.out w12 HB12.out; clear heq)
    | (go_at_call 17; refine hcm.mono ?_; rintro e w14 ⟨rfl, hb14⟩; have HB14 := Lib.hid (HB0.out.trans ((HB12.out.mono HB0.out.size).trans (hb14.mono (Nat.le_trans HB0.out.size HB12.out.size)))); clear hcm hb14))
  go_ret
  exact ⟨rfl, HB14.out⟩
theorem walk_EventJoins (Aa : Option Addr) (ca : Nat) (la : List EE) (Ab : Option Addr) (cb' : Nat) (lb : List EE) (w : World) (ha : Rd w w.heap.size Aa (ee_ la)) (hab : EvBs w w.heap.size la) (hb : Rd w w.heap.size Ab (ee_ lb)) (hbb : EvBs w w.heap.size lb) :
    Calls Try.prog 5 #[.slice Aa la.length ca, .slice Ab lb.length cb'] w fun e w' => e = .returned (.bool true) ∧ Below w.heap.size w w' :=
  walkJ la lb Aa Ab ca cb' w ha hab hb hbb
end Go.Proofs.Ytlmelfakmllinaa.Fl
