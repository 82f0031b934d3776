/-
  Events: the document's quoting and its line.
-/
import Derived.Test.YtlmelfakmllinaaEvI
namespace Go.Proofs.Ytlmelfakmllinaa.Fl
open Go.RowKit

theorem nums_backE (xs : List UInt8) : strOfNums (xs.map fun c => (c.toNat : Int)) = ⟨xs.toArray⟩ := by
  have h := strOfNums_data (xs.map fun c => (c.toNat : Int))
  rw [List.map_map] at h
  have e : xs.map ((fun n : Int => UInt8.ofNat n.toNat) ∘ fun c : UInt8 => (c.toNat : Int)) = xs := by
    refine (List.map_congr_left fun c _ => ?_).trans (List.map_id xs)
    simp
  rw [e] at h
  have e2 : ∀ s : ByteArray, s = ⟨s.data.toList.toArray⟩ := fun s => by cases s; simp
  rw [e2 (strOfNums _), h]
theorem conv_backE {w : World} {B : Nat} {A : Option Addr} {xs : List UInt8} (c : Nat) (hr : Rd w B A (cb xs)) : (convert 32 9 (.slice A xs.length c)).run Try.prog w = .ok (.string ⟨xs.toArray⟩) w := by
  rw [conv_str c hr, nums_backE]
theorem ownE_row (w : World) (l : List UInt8) (h : l.length ≤ 1000) : Own (w.alloc (.cells (cb l).toArray 5)) w.heap.size (.slice (some ⟨w.heap.size, 0, none⟩) l.length l.length) l := by
  unfold Own
  exact ⟨by simp [cb], .inr ⟨_, _, _, rfl, Nat.le_refl _, heap_alloc_new w _, Nat.le_refl _, by unfold maxLen; omega, by simp [cb], by rw [List.take_of_length_le (by simp [cb])]⟩⟩
theorem rdE_row (w : World) (l : List UInt8) : Rd (w.alloc (.cells (cb l).toArray 5)) (w.alloc (.cells (cb l).toArray 5)).heap.size (some ⟨w.heap.size, 0, none⟩) (cb l) := by
  have hg := heap_alloc_new w (.cells (cb l).toArray 5)
  refine .inr ⟨w.heap.size, 0, rfl, lt_of_blk hg, fun j v hj => ?_⟩
  rw [Nat.zero_add]
  exact (cell_of_row _ _ _ _ _ _ hg).trans ((List.getElem?_toArray ..).trans hj)
theorem rhex_any (n : Nat) (w : World) (h : n < 16) :
    Calls Try.prog 39 #[.int .u8 (n : Int)] w fun e w' => e = .returned (.int .u8 ((hexB n).toNat : Int)) ∧ w = w' := by
  have hv : ((hexB n).toNat : Int) = if n < 10 then 48 + (n : Int) else 87 + (n : Int) := by
    unfold hexB
    rw [show (UInt8.ofNat (if n < 10 then 48 + n else 87 + n)).toNat = (if n < 10 then 48 + n else 87 + n) % 256 from UInt8.toNat_ofNat']
    split <;> omega
  rw [hv]
  clear hv
  go_enter Try.func39, Try.ntmps39
  by_cases h1 : n < 10
  · have h2 : (n : Int) < 10 := by omega
    rw [if_pos h1]
    go_wp2_with fail
    go_ret
    refine ⟨congrArg (fun x => Ending.returned (Value.int .u8 x)) ?_, rfl⟩
    first | (show IntKind.u8.wrap _ = _; rw [IntKind.wrap_u8]; omega) | (simp only [Array.getD]; rfl) | omega
  · have h2 : ¬ (n : Int) < 10 := by omega
    rw [if_neg h1]
    go_wp2_with fail
    go_ret
    refine ⟨congrArg (fun x => Ending.returned (Value.int .u8 x)) ?_, rfl⟩
    first | (show IntKind.u8.wrap _ = _; rw [IntKind.wrap_u8]; omega) | (simp only [Array.getD]; rfl) | omega
set_option maxRecDepth 100000 in
set_option maxHeartbeats 4000000 in
theorem rquote_any (l : List UInt8) (w : World) (hl : l.length ≤ 1000) :
    Calls Try.prog 31 #[.string ⟨l.toArray⟩] w fun e w' => e = .returned (.string ⟨(quoL l).toArray⟩) ∧ Below w.heap.size w w' := by
  have HO0 := Lib.hid (ownE_row w [34] (by decide))
  have HB0 : Hid (Below w.heap.size w (w.alloc (.cells (cb [34]).toArray 5))) := Lib.hid ((Below.refl _ _).alloc (Nat.le_refl _) _)
  go_enter Try.func31, Try.ntmps31
  go_wp2_with fail
  go_loopw [3, 4] (fun s u wr => ∃ (k : Nat) (ts : List UInt8) (A : Option Addr) (c : Nat), k ≤ l.length ∧ s = .slice A ts.length c ∧ u = .int .i64 (k : Int) ∧ Hid (ts = 34 :: (l.take k).flatMap quoB) ∧ Hid (Own wr w.heap.size (.slice A ts.length c) ts) ∧ Hid (Below w.heap.size w wr)) (fun _ u _ => l.length - (intOf u).toNat)
  case atStart => exact ⟨0, [34], _, 1, Nat.zero_le _, rfl, rfl, Lib.hid rfl, HO0, HB0⟩
  case round =>
    obtain ⟨k, ts, A, c, hk, rfl, rfl, HT, HO, HB⟩ := hrel
    clear HO0 HB0
    have hsz := HB.out.size
    have hlen := flat_len quoB 3 (l.take k) fun x _ => quoB_len x
    have htl : ts.length ≤ 1000000 := by
      rw [HT.out, List.length_cons]
      rw [List.length_take] at hlen
      omega
    by_cases hlt : k < l.length
    case neg =>
      have hq : ¬ ((k : Int) < (l.length : Int)) := by omega
      have hr := rdE_row wr [34]
      have hb2 : Below wr.heap.size wr (wr.alloc (.cells (cb [34]).toArray 5)) := (Below.refl _ _).alloc (Nat.le_refl _) _
      have ho := OwnE_below HO.out hb2
      have HB2 := Lib.hid (HB.out.trans (hb2.mono hsz))
      have hs2 := HB2.out.size
      have HE := Lib.hid (show ts ++ [34] = quoL l by rw [HT.out, List.take_of_length_le (by omega)]; rfl)
      clear hb2 hlen
      go_wp2_with (at_builtin; refine wpList_append_e (base := w.heap.size) (v := .slice A ts.length c) (xs := ts) (news := [34]) rfl _ _ rfl rfl rfl ho hr (fun h => by cases h) htl (by decide) hs2 ?_; intro A3 t3 c3 w3 HT3 HO3 HK3)
      have hcv := conv_backE c3 (ownE_rd HO3.out).1
      rw [hcv]
      simp only [Result.andThen]
      rw [Oper.upon_value]
      clear hcv ho hr
      go_wp2_with fail
      go_ret
      exact ⟨by rw [← HE.out, ← HT3.out]; rfl, HB2.out.trans HK3.out.1⟩
    have hq : (k : Int) < (l.length : Int) := by omega
    go_upto_region 6 with fail
    have HTk : Hid (l.take (k + 1) = l.take k ++ [l[k]]) := Lib.hid (List.take_succ_eq_append_getElem hlt)
    obtain ⟨x, hx⟩ : ∃ x, (⟨l.toArray⟩ : ByteArray)[k]'(by show k < l.toArray.size; simpa using hlt) = x := ⟨_, rfl⟩
    have hx' : l[k] = x := hx
    rw [hx'] at HTk
    rw [hx]
    clear hx hx'
    have hxl := x.toNat_lt
    by_cases h1 : x.toNat < 32
    · skip
      have h1' : (x.toNat : Int) < 32 := by omega
      have HQ := Lib.hid (show quoB x = [92, hexB (x.toNat / 16), hexB (x.toNat % 16)] by unfold quoB; rw [show plainB x = false by simp [plainB]; omega]; rfl)
      have hr := rdE_row wr [92, hexB (x.toNat / 16), hexB (x.toNat % 16)]
      have hb2 : Below wr.heap.size wr (wr.alloc (.cells (cb [92, hexB (x.toNat / 16), hexB (x.toNat % 16)]).toArray 5)) := (Below.refl _ _).alloc (Nat.le_refl _) _
      have ho := OwnE_below HO.out hb2
      have HB2 := Lib.hid (HB.out.trans (hb2.mono hsz))
      have hs2 := HB2.out.size
      clear hb2 hlen
      have hx1 := rhex_any (x.toNat / 16) wr (by omega)
      have hx2 := rhex_any (x.toNat % 16) wr (by omega)
      rw [show ((x.toNat / 16 : Nat) : Int) = (x.toNat : Int) / 16 by omega] at hx1
      rw [show ((x.toNat % 16 : Nat) : Int) = (x.toNat : Int) % 16 by omega] at hx2
      go_wp2_with (first
        | (go_at_call 39; first
            | (refine hx1.mono ?_; rintro e w4 ⟨rfl, rfl⟩; clear hx1)
            | (refine hx2.mono ?_; rintro e w4 ⟨rfl, rfl⟩; clear hx2))
        | (at_builtin; refine wpList_append_e (base := w.heap.size) (v := .slice A ts.length c) (xs := ts) (news := [92, hexB (x.toNat / 16), hexB (x.toNat % 16)]) rfl _ _ rfl rfl rfl ho hr (fun h => by cases h) htl (by simp) hs2 ?_; intro A3 t3 c3 w3 HT3 HO3 HK3))
      go_roundw
      case rel => exact ⟨k + 1, t3, A3, c3, by omega, rfl, by simp, Lib.hid (by rw [HT3.out, HT.out, HTk.out, List.flatMap_append, List.cons_append]; simp [HQ.out]), HO3, Lib.hid (HB2.out.trans HK3.out.1)⟩
      case measure => simp [intOf]; omega
    by_cases h2 : 126 < x.toNat
    · skip
      have h1b : (32 : Int) ≤ (x.toNat : Int) := by omega
      have h2' : 126 < (x.toNat : Int) := by omega
      have HQ := Lib.hid (show quoB x = [92, hexB (x.toNat / 16), hexB (x.toNat % 16)] by unfold quoB; rw [show plainB x = false by simp [plainB]; omega]; rfl)
      have hr := rdE_row wr [92, hexB (x.toNat / 16), hexB (x.toNat % 16)]
      have hb2 : Below wr.heap.size wr (wr.alloc (.cells (cb [92, hexB (x.toNat / 16), hexB (x.toNat % 16)]).toArray 5)) := (Below.refl _ _).alloc (Nat.le_refl _) _
      have ho := OwnE_below HO.out hb2
      have HB2 := Lib.hid (HB.out.trans (hb2.mono hsz))
      have hs2 := HB2.out.size
      clear hb2 hlen
      have hx1 := rhex_any (x.toNat / 16) wr (by omega)
      have hx2 := rhex_any (x.toNat % 16) wr (by omega)
      rw [show ((x.toNat / 16 : Nat) : Int) = (x.toNat : Int) / 16 by omega] at hx1
      rw [show ((x.toNat % 16 : Nat) : Int) = (x.toNat : Int) % 16 by omega] at hx2
      go_wp2_with (first
        | (go_at_call 39; first
            | (refine hx1.mono ?_; rintro e w4 ⟨rfl, rfl⟩; clear hx1)
            | (refine hx2.mono ?_; rintro e w4 ⟨rfl, rfl⟩; clear hx2))
        | (at_builtin; refine wpList_append_e (base := w.heap.size) (v := .slice A ts.length c) (xs := ts) (news := [92, hexB (x.toNat / 16), hexB (x.toNat % 16)]) rfl _ _ rfl rfl rfl ho hr (fun h => by cases h) htl (by simp) hs2 ?_; intro A3 t3 c3 w3 HT3 HO3 HK3))
      go_roundw
      case rel => exact ⟨k + 1, t3, A3, c3, by omega, rfl, by simp, Lib.hid (by rw [HT3.out, HT.out, HTk.out, List.flatMap_append, List.cons_append]; simp [HQ.out]), HO3, Lib.hid (HB2.out.trans HK3.out.1)⟩
      case measure => simp [intOf]; omega
    by_cases hn : x.toNat = 34
    · clear h1 h2
      have ex : x = 34 := UInt8.toNat_inj.1 (by rw [hn]; rfl)
      have HQ := Lib.hid (show quoB x = [92, hexB 2, hexB 2] by rw [ex]; rfl)
      rw [show (x.toNat : Int) = 34 by omega]
      clear hn ex
      have hr := rdE_row wr [92, hexB 2, hexB 2]
      have hb2 : Below wr.heap.size wr (wr.alloc (.cells (cb [92, hexB 2, hexB 2]).toArray 5)) := (Below.refl _ _).alloc (Nat.le_refl _) _
      have ho := OwnE_below HO.out hb2
      have HB2 := Lib.hid (HB.out.trans (hb2.mono hsz))
      have hs2 := HB2.out.size
      clear hb2 hlen
      have hx1 := rhex_any 2 wr (by decide)
      have hx2 := rhex_any 2 wr (by decide)
      rw [show ((2 : Nat) : Int) = 2 from rfl] at hx1
      rw [show ((2 : Nat) : Int) = 2 from rfl] at hx2
      go_wp2_with (first
        | (go_at_call 39; first
            | (refine hx1.mono ?_; rintro e w4 ⟨rfl, rfl⟩; clear hx1)
            | (refine hx2.mono ?_; rintro e w4 ⟨rfl, rfl⟩; clear hx2))
        | (at_builtin; refine wpList_append_e (base := w.heap.size) (v := .slice A ts.length c) (xs := ts) (news := [92, hexB 2, hexB 2]) rfl _ _ rfl rfl rfl ho hr (fun h => by cases h) htl (by simp) hs2 ?_; intro A3 t3 c3 w3 HT3 HO3 HK3))
      go_roundw
      case rel => exact ⟨k + 1, t3, A3, c3, by omega, rfl, by simp, Lib.hid (by rw [HT3.out, HT.out, HTk.out, List.flatMap_append, List.cons_append]; simp [HQ.out]), HO3, Lib.hid (HB2.out.trans HK3.out.1)⟩
      case measure => simp [intOf]; omega
    have h3 := hn
    clear hn
    by_cases hn : x.toNat = 92
    · clear h1 h2 h3
      have ex : x = 92 := UInt8.toNat_inj.1 (by rw [hn]; rfl)
      have HQ := Lib.hid (show quoB x = [92, hexB 5, hexB 12] by rw [ex]; rfl)
      rw [show (x.toNat : Int) = 92 by omega]
      clear hn ex
      have hr := rdE_row wr [92, hexB 5, hexB 12]
      have hb2 : Below wr.heap.size wr (wr.alloc (.cells (cb [92, hexB 5, hexB 12]).toArray 5)) := (Below.refl _ _).alloc (Nat.le_refl _) _
      have ho := OwnE_below HO.out hb2
      have HB2 := Lib.hid (HB.out.trans (hb2.mono hsz))
      have hs2 := HB2.out.size
      clear hb2 hlen
      have hx1 := rhex_any 5 wr (by decide)
      have hx2 := rhex_any 12 wr (by decide)
      rw [show ((5 : Nat) : Int) = 5 from rfl] at hx1
      rw [show ((12 : Nat) : Int) = 12 from rfl] at hx2
      go_wp2_with (first
        | (go_at_call 39; first
            | (refine hx1.mono ?_; rintro e w4 ⟨rfl, rfl⟩; clear hx1)
            | (refine hx2.mono ?_; rintro e w4 ⟨rfl, rfl⟩; clear hx2))
        | (at_builtin; refine wpList_append_e (base := w.heap.size) (v := .slice A ts.length c) (xs := ts) (news := [92, hexB 5, hexB 12]) rfl _ _ rfl rfl rfl ho hr (fun h => by cases h) htl (by simp) hs2 ?_; intro A3 t3 c3 w3 HT3 HO3 HK3))
      go_roundw
      case rel => exact ⟨k + 1, t3, A3, c3, by omega, rfl, by simp, Lib.hid (by rw [HT3.out, HT.out, HTk.out, List.flatMap_append, List.cons_append]; simp [HQ.out]), HO3, Lib.hid (HB2.out.trans HK3.out.1)⟩
      case measure => simp [intOf]; omega
    have h1b : (32 : Int) ≤ (x.toNat : Int) := by omega
    have h2' : (x.toNat : Int) ≤ 126 := by omega
    have h3' : ((x.toNat : Int) != 34) = true := by rw [bne_iff_ne]; omega
    have h4' : ((x.toNat : Int) != 92) = true := by rw [bne_iff_ne]; omega
    have HQ := Lib.hid (show quoB x = [x] by unfold quoB; rw [show plainB x = true by simp [plainB]; omega]; rfl)
    have hr := rdE_row wr [x]
    have hb2 : Below wr.heap.size wr (wr.alloc (.cells (cb [x]).toArray 5)) := (Below.refl _ _).alloc (Nat.le_refl _) _
    have ho := OwnE_below HO.out hb2
    have HB2 := Lib.hid (HB.out.trans (hb2.mono hsz))
    have hs2 := HB2.out.size
    clear hb2 hlen
    go_wp2_with (at_builtin; refine wpList_append_e (base := w.heap.size) (v := .slice A ts.length c) (xs := ts) (news := [x]) rfl _ _ rfl rfl rfl ho hr (fun h => by cases h) htl (by simp) hs2 ?_; intro A3 t3 c3 w3 HT3 HO3 HK3)
    go_roundw
    case rel => exact ⟨k + 1, t3, A3, c3, by omega, rfl, by simp, Lib.hid (by rw [HT3.out, HT.out, HTk.out, List.flatMap_append, List.cons_append]; simp [HQ.out]), HO3, Lib.hid (HB2.out.trans HK3.out.1)⟩
    case measure => simp [intOf]; omega
end Go.Proofs.Ytlmelfakmllinaa.Fl
