/-
  What can be reached: a wave in which something is loose.
-/
import Derived.Test.YtahmljjjdoaahaaDoorPMarkE
namespace Go.Proofs.YtahmljjjdoaahaaDoor.Fl
open Go.RowKit

section
variable {w w' : World} {base g gc cap gb gb2 size last LB lk sb sb2 : Nat} {L ws fs : List Nat} {k : Nat}
theorem askL_none {ld : Nat → List Nat} {p : Nat} {t : List Nat} (h : askL ld ws fs (p :: t) = none) : findL ws fs (ld p) = none ∨ ∃ f1, findL ws fs (ld p) = some f1 ∧ askL ld ws f1 t = none := by
  rw [askL] at h
  cases hc : findL ws fs (ld p) with
  | none => exact .inl rfl
  | some f1 => rw [hc] at h; exact .inr ⟨f1, rfl, h⟩
set_option maxHeartbeats 2000000 in
theorem wave_loose {ld : Nat → List Nat} (w : World) (hG : Leads ld L ws) (h : LookAt w base g gc cap gb gb2 size last LB lk sb sb2 L ws fs k) (hk : k ≤ fs.length) (hf : askL ld ws fs (fs.drop k) = none) :
    Calls Tryd.prog 52 #[.pointer (some ⟨lk, 0, none⟩)] w (LoosePost LB w) := by
  obtain ⟨v, hv, ho⟩ := h.found
  obtain ⟨A, c, rfl⟩ := own_len ho
  obtain ⟨d0, d1, d3, df, dlt⟩ := h.c
  have hlen := h.len
  have hsm := h.heap.small
  have H := Lib.hid h
  have HF := Lib.hid hf
  have HG := Lib.hid hG
  clear h ho hf hG
  go_enter Tryd.func52, Tryd.ntmps52
  go_wp2_with fail
  clear d0 d1 d3 df dlt hv
  go_loopw [4] (fun _ wr => ∃ (j : Nat) (fj t : List Nat), k ≤ j ∧ j ≤ fs.length ∧ Hid (fj = fs ++ t) ∧ Hid (askL ld ws fj (fs.drop j) = none) ∧ Hid (LookAt wr base g gc cap gb gb2 size last LB lk sb sb2 L ws fj j) ∧ Hid (Keep LB w wr)) (fun _ wr => fs.length - (match wr.cell? ⟨lk, 3, none⟩ with | some v => (intOf v).toNat | none => 0))
  case atStart => exact ⟨k, fs, [], Nat.le_refl _, hk, Lib.hid (by simp), HF, H, Lib.hid (Keep.refl _ _)⟩
  case round =>
    obtain ⟨j, fj, t, hj0, hj, HT, HFj, HR, HK⟩ := hrel
    clear H HF hk
    obtain ⟨d0, d1, d3, df, dlt⟩ := HR.out.c
    by_cases hlt : j < fs.length
    · obtain ⟨v, hv, ho⟩ := HR.out.found
      have hjl : j < fj.length := by rw [HT.out, List.length_append]; omega
      have hlj := HR.out.len
      obtain ⟨f, c', rfl, hcell⟩ := own_cellW ho hjl
      have hfj : fj[j] = fs[j] := by
        have := HT.out
        subst this
        rw [List.getElem_append_left hlt]
      have hask := HFj.out
      rw [List.drop_eq_getElem_cons hlt] at hask
      have hip : isP ws fs[j] := hfj ▸ HR.out.isp _ (List.getElem_mem hjl)
      rw [hfj] at hcell
      obtain ⟨cl, kind, sz, hash, mark, xs, hob, hld⟩ := HG.out _ hip
      rcases askL_none hask with hno | ⟨f1, hf1, hf2⟩
      · rw [hld] at hno
        have hcall := fun w' (hw' : LookAt w' base g gc cap gb gb2 size last LB lk sb sb2 L ws fj j) => ask_loose fs[j] cl kind sz hash mark w' hw' hob hno
        clear ho hask hno hip hob hld hfj HFj
        generalize fs[j] = p at hcell hcall
        go_upto_region 4 with fail
        go_cut [4] (fun v wx => v = .int .i64 13 ∧ Hid (Keep LB w wx))
        case first =>
          go_wp2_with fail
          go_region_with ((go_at_call 64; refine (hcall _ HR.out.drew).mono ?_; rintro e w1 ⟨rfl, hK1⟩))
          all_goals (rename_i hK; refine hK _ _ ?_; clear hK)
          all_goals (go_wp2_with fail)
          all_goals go_meet
          all_goals exact ⟨rfl, Lib.hid ((HK.out.trans (Keep.of_below (Below.refl _ _).drew)).trans hK1)⟩
        case rest =>
          obtain ⟨rfl, K1⟩ := hcut
          clear hcall HR HK d0 d1 d3 df dlt hv hcell
          go_wp2_with fail
          go_ret
          exact ⟨rfl, K1.out⟩
      obtain ⟨t1, ht1⟩ := findL_pre hf1
      rw [hld] at hf1
      have hcall := fun w' (hw' : LookAt w' base g gc cap gb gb2 size last LB lk sb sb2 L ws fj j) => ask_any fs[j] cl kind sz hash mark w' hw' hob hf1
      have HT1 := Lib.hid (show f1 = fs ++ (t ++ t1) by rw [ht1, HT.out, List.append_assoc])
      have HF2 := Lib.hid hf2
      clear ho hask hf1 hf2 hip ht1 hob hld hfj HFj
      generalize fs[j] = p at hcell hcall
      go_upto_region 4 with fail
      go_cut [4] (fun v wx => v = .int .i64 0 ∧ Hid (LookAt wx base g gc cap gb gb2 size last LB lk sb sb2 L ws f1 j) ∧ Hid (Keep LB w wx))
      case first =>
        go_wp2_with fail
        go_region_with ((go_at_call 64; refine (hcall _ HR.out.drew).mono ?_; rintro e w1 ⟨rfl, hL1, hK1⟩))
        all_goals (rename_i hK; refine hK _ _ ?_; clear hK)
        all_goals (go_wp2_with fail)
        all_goals go_meet
        all_goals exact ⟨rfl, Lib.hid hL1, Lib.hid ((HK.out.trans (Keep.of_below (Below.refl _ _).drew)).trans hK1)⟩
      case rest =>
        obtain ⟨rfl, H1, K1⟩ := hcut
        have D3 := Lib.hid d3
        clear hcall HR HK d0 d1 d3 df dlt hv hcell
        obtain ⟨d0, d1, d3, df, dlt⟩ := H1.out.c
        have R := Lib.hid (H1.out.next (j + 1))
        rw [show ((j + 1 : Nat) : Int) = (j : Int) + 1 by omega] at R
        have hc2 := World.cell?_setCell_same wc _ (.int .i64 ((j : Int) + 1)) d3
        clear H1
        go_wp2_with fail
        go_roundw
        case rel => exact ⟨j + 1, f1, t ++ t1, by omega, by omega, HT1, HF2, Lib.hid R.out.1, Lib.hid (K1.out.trans R.out.2)⟩
        case measure =>
          rw [D3.out, hc2]
          simp [intOf]; omega
    · have e : j = fs.length := by omega
      subst e
      have := HFj.out
      rw [List.drop_length] at this
      simp [askL] at this
end
end Go.Proofs.YtahmljjjdoaahaaDoor.Fl
