/-
  What can be reached: a wave, and whether something is left to be asked; the roots.
-/
import Derived.Test.YtahmljjjdoaahaaDoorPMarkB
namespace Go.Proofs.YtahmljjjdoaahaaDoor.Fl
open Go.RowKit

/-- what is found with what some objects lead to -/
def askL (ld : Nat → List Nat) (ws : List Nat) : List Nat → List Nat → Option (List Nat)
  | fs, [] => some fs
  | fs, p :: t => (findL ws fs (ld p)).bind fun f => askL ld ws f t
theorem askL_cons {ld : Nat → List Nat} {ws fs fs' : List Nat} {p : Nat} {t : List Nat} (h : askL ld ws fs (p :: t) = some fs') : ∃ f1, findL ws fs (ld p) = some f1 ∧ askL ld ws f1 t = some fs' := by
  rw [askL] at h
  cases hc : findL ws fs (ld p) with
  | none => rw [hc] at h; cases h
  | some f1 => rw [hc] at h; exact ⟨f1, rfl, h⟩
theorem find1_pre {ws fs fs' : List Nat} {x : Nat} (h : find1 ws fs x = some fs') : ∃ t, fs' = fs ++ t := by
  unfold find1 at h
  split at h
  · injection h with h; exact ⟨[], by simp [h]⟩
  · split at h
    · split at h
      · injection h with h; exact ⟨[], by simp [h]⟩
      · injection h with h; exact ⟨[x], h.symm⟩
    · cases h
theorem findL_pre {ws : List Nat} : ∀ {xs fs fs' : List Nat}, findL ws fs xs = some fs' → ∃ t, fs' = fs ++ t
  | [], fs, fs', h => by rw [findL] at h; injection h with h; exact ⟨[], by simp [h]⟩
  | x :: xs, fs, fs', h => by
    obtain ⟨f1, h1, h2⟩ := findL_cons h
    obtain ⟨t1, rfl⟩ := find1_pre h1
    obtain ⟨t2, rfl⟩ := findL_pre h2
    exact ⟨t1 ++ t2, by simp⟩
/-- the objects of a heap, and what each leads to -/
def Leads (ld : Nat → List Nat) (L ws : List Nat) : Prop := ∀ p, isP ws p → ∃ cl kind sz hash mark xs, ObAt L ws p cl kind sz hash mark xs ∧ ld p = cl :: xs
section
variable {w w' : World} {base g gc cap gb gb2 size last LB lk sb sb2 : Nat} {L ws fs : List Nat} {k : Nat}
theorem own_cellW {w : World} {B : Nat} {v : Value} {fs : List Nat} (h : OwnH w B v fs) {j : Nat} (hj : j < fs.length) : ∃ f c, v = .slice (some ⟨f, 0, none⟩) fs.length c ∧ w.cell? ⟨f, j, none⟩ = some (.int .u64 (fs[j] : Int)) := by
  rcases h.2 with ⟨_, e⟩ | ⟨g', cap', cur, e, hb', hg, _, _, _, ht⟩
  · omega
  · refine ⟨g', cap', e, ?_⟩
    rw [cell_of_row _ g' j _ _ _ hg, ← cw_at fs j hj]
    rw [Nat.mul_one] at ht
    rw [← ht, List.getElem?_take, if_pos hj]; simp
theorem own_len {w : World} {B : Nat} {v : Value} {fs : List Nat} (h : OwnH w B v fs) : ∃ A c, v = .slice A fs.length c := by
  rcases h.2 with ⟨e, e2⟩ | ⟨g', cap', cur, e, _⟩
  · rw [e2]; exact ⟨_, _, e⟩
  · exact ⟨_, _, e⟩
theorem LookAt.drew (h : LookAt w base g gc cap gb gb2 size last LB lk sb sb2 L ws fs k) : LookAt w.drew base g gc cap gb gb2 size last LB lk sb sb2 L ws fs k := h.keep (Below.refl _ _).drew
/-- one more was asked -/
theorem LookAt.next (h : LookAt w base g gc cap gb gb2 size last LB lk sb sb2 L ws fs k) (k' : Nat) : LookAt (w.setCell ⟨lk, 3, none⟩ (.int .i64 (k' : Int))) base g gc cap gb gb2 size last LB lk sb sb2 L ws fs k' ∧ Keep LB w (w.setCell ⟨lk, 3, none⟩ (.int .i64 (k' : Int))) := by
  obtain ⟨v, h1, h2⟩ := h.hd
  obtain ⟨bs, h3, h4⟩ := h.bits
  obtain ⟨n1, n2, n3⟩ := h.ne
  have hset : ∀ b, b ≠ lk → (w.setCell ⟨lk, 3, none⟩ (.int .i64 (k' : Int))).heap[b]? = w.heap[b]? := fun b hb => Below.heap_setCell _ _ _ _ hb
  have hg := h.gs
  have hbl := h.bl
  refine ⟨⟨h.heap.at_ (hset _ (by omega)) (hset _ (by omega)) (hset _ (by omega)) (hset _ (by omega)), hg, ⟨v, heap_setCell_same w lk 3 _ _ _ h1, OwnH.keep h2 (fun b cur hb => hset b (other_type hb h1 (by decide)))⟩, ⟨bs, h3.at_ (hset _ (fun e => n1 e.symm)) (hset _ (fun e => n2 e.symm)), h4⟩, hbl, h.isp, h.nd, ?_⟩, Keep.set w lk 3 _ hbl.1 h1 (.inl rfl)⟩
  have := h.top
  simp [World.setCell]; exact this
set_option maxHeartbeats 1000000 in
theorem more_any (w : World) (h : LookAt w base g gc cap gb gb2 size last LB lk sb sb2 L ws fs k) :
    Calls Tryd.prog 51 #[.pointer (some ⟨lk, 0, none⟩)] w fun e w' => e = .returned (.bool (decide (k < fs.length))) ∧ Below w.heap.size w w' := by
  obtain ⟨v, hv, ho⟩ := h.found
  obtain ⟨A, c, rfl⟩ := own_len ho
  obtain ⟨d0, d1, d3, df, dlt⟩ := h.c
  have hlen := h.len
  have hsm := h.heap.small
  have hd : decide ((k : Int) < (fs.length : Int)) = decide (k < fs.length) := by simp
  clear h ho
  go_enter Tryd.func51, Tryd.ntmps51
  go_wp2_with fail
  go_region
  rename_i hK
  refine hK _ _ ?_
  clear hK
  go_wp2_with fail
  go_ret
  exact ⟨rfl, (Below.refl _ _).drew⟩
def WavePost (w : World) (base g gc cap gb gb2 size last LB lk sb sb2 : Nat) (L ws fs' : List Nat) (k : Nat) (e : Ending) (w' : World) : Prop :=
  e = .returned (.int .i64 0) ∧ LookAt w' base g gc cap gb gb2 size last LB lk sb sb2 L ws fs' k ∧ Keep LB w w'
set_option maxHeartbeats 2000000 in
theorem wave_any {ld : Nat → List Nat} {fs' : List Nat} (w : World) (hG : Leads ld L ws) (h : LookAt w base g gc cap gb gb2 size last LB lk sb sb2 L ws fs k) (hk : k ≤ fs.length) (hf : askL ld ws fs (fs.drop k) = some fs') :
    Calls Tryd.prog 52 #[.pointer (some ⟨lk, 0, none⟩)] w (WavePost w base g gc cap gb gb2 size last LB lk sb sb2 L ws fs' fs.length) := by
  obtain ⟨v, hv, ho⟩ := h.found
  obtain ⟨A, c, rfl⟩ := own_len ho
  obtain ⟨d0, d1, d3, df, dlt⟩ := h.c
  have hlen := h.len
  have hsm := h.heap.small
  have H := Lib.hid h
  have HF := Lib.hid hf
  have HG := Lib.hid hG
  clear h ho hf hG
  go_enter Tryd.func52, Tryd.ntmps52
  go_wp2_with fail
  clear d0 d1 d3 df dlt hv
  go_loopw [4] (fun _ wr => ∃ (j : Nat) (fj t : List Nat), k ≤ j ∧ j ≤ fs.length ∧ Hid (fj = fs ++ t) ∧ Hid (askL ld ws fj (fs.drop j) = some fs') ∧ Hid (LookAt wr base g gc cap gb gb2 size last LB lk sb sb2 L ws fj j) ∧ Hid (Keep LB w wr)) (fun _ wr => fs.length - (match wr.cell? ⟨lk, 3, none⟩ with | some v => (intOf v).toNat | none => 0))
  case atStart => exact ⟨k, fs, [], Nat.le_refl _, hk, Lib.hid (by simp), HF, H, Lib.hid (Keep.refl _ _)⟩
  case round =>
    obtain ⟨j, fj, t, hj0, hj, HT, HFj, HR, HK⟩ := hrel
    clear H HF hk
    obtain ⟨d0, d1, d3, df, dlt⟩ := HR.out.c
    by_cases hlt : j < fs.length
    · obtain ⟨v, hv, ho⟩ := HR.out.found
      have hjl : j < fj.length := by rw [HT.out, List.length_append]; omega
      have hlj := HR.out.len
      obtain ⟨f, c', rfl, hcell⟩ := own_cellW ho hjl
      have hfj : fj[j] = fs[j] := by
        have := HT.out
        subst this
        rw [List.getElem_append_left hlt]
      have hask := HFj.out
      rw [List.drop_eq_getElem_cons hlt] at hask
      obtain ⟨f1, hf1, hf2⟩ := askL_cons hask
      have hip : isP ws fs[j] := hfj ▸ HR.out.isp _ (List.getElem_mem hjl)
      rw [hfj] at hcell
      obtain ⟨t1, ht1⟩ := findL_pre hf1
      obtain ⟨cl, kind, sz, hash, mark, xs, hob, hld⟩ := HG.out _ hip
      rw [hld] at hf1
      have hcall := fun w' (hw' : LookAt w' base g gc cap gb gb2 size last LB lk sb sb2 L ws fj j) => ask_any fs[j] cl kind sz hash mark w' hw' hob hf1
      have HT1 := Lib.hid (show f1 = fs ++ (t ++ t1) by rw [ht1, HT.out, List.append_assoc])
      have HF2 := Lib.hid hf2
      clear ho hask hf1 hf2 hip ht1 hob hld hfj HFj
      generalize fs[j] = p at hcell hcall
      go_upto_region 4 with fail
      go_cut [4] (fun v wx => v = .int .i64 0 ∧ Hid (LookAt wx base g gc cap gb gb2 size last LB lk sb sb2 L ws f1 j) ∧ Hid (Keep LB w wx))
      case first =>
        go_wp2_with fail
        go_region_with ((go_at_call 64; refine (hcall _ HR.out.drew).mono ?_; rintro e w1 ⟨rfl, hL1, hK1⟩))
        all_goals (rename_i hK; refine hK _ _ ?_; clear hK)
        all_goals (go_wp2_with fail)
        all_goals go_meet
        all_goals exact ⟨rfl, Lib.hid hL1, Lib.hid ((HK.out.trans (Keep.of_below (Below.refl _ _).drew)).trans hK1)⟩
      case rest =>
        obtain ⟨rfl, H1, K1⟩ := hcut
        have D3 := Lib.hid d3
        clear hcall HR HK d0 d1 d3 df dlt hv hcell
        obtain ⟨d0, d1, d3, df, dlt⟩ := H1.out.c
        have R := Lib.hid (H1.out.next (j + 1))
        rw [show ((j + 1 : Nat) : Int) = (j : Int) + 1 by omega] at R
        have hc2 := World.cell?_setCell_same wc _ (.int .i64 ((j : Int) + 1)) d3
        clear H1
        go_wp2_with fail
        go_roundw
        case rel => exact ⟨j + 1, f1, t ++ t1, by omega, by omega, HT1, HF2, Lib.hid R.out.1, Lib.hid (K1.out.trans R.out.2)⟩
        case measure =>
          rw [D3.out, hc2]
          simp [intOf]; omega
    · have e : j = fs.length := by omega
      subst e
      go_wp2_with fail
      go_ret
      have e : fj = fs' := by
        have := HFj.out
        rw [List.drop_length] at this
        simpa [askL] using this
      subst e
      exact ⟨rfl, HR.out, HK.out⟩
theorem rdh_at {w : World} {B : Nat} {A : Option Addr} {ws : List Nat} (h : Rd w B A (cw ws)) {k : Nat} (hk : k < ws.length) :
    ∃ b off, A = some ⟨b, off, none⟩ ∧ b < B ∧ w.cell? ⟨b, off + k, none⟩ = some (.int .u64 (ws[k] : Int)) := by
  obtain ⟨b, off, hA, hb, hc⟩ := h.at_ (k := k) (by rw [cw_len]; exact hk)
  refine ⟨b, off, hA, hb, ?_⟩
  rw [hc]; simp [cw]
theorem Keep.drew {B : Nat} {w w' : World} (h : Keep B w w') : Keep B w w'.drew := h.trans (Keep.of_below (Below.refl _ _).drew)
def BeginPost (w : World) (base g gc cap gb gb2 size last : Nat) (L ws fs' : List Nat) (k : Nat) (e : Ending) (w' : World) : Prop :=
  ∃ lk sb sb2 : Nat, e = .returned (.tuple #[.pointer (some ⟨lk, 0, none⟩), .int .i64 0]) ∧ LookAt w' base g gc cap gb gb2 size last w.heap.size lk sb sb2 L ws fs' k ∧ Below w.heap.size w w'
set_option maxHeartbeats 2000000 in
theorem begin_any {fs' : List Nat} (rs : List Nat) (A : Option Addr) (c : Nat) (w : World) (h : HeapAt w base g gc cap gb gb2 size last L ws) (hr : Rd w w.heap.size A (cw rs)) (hrs : ∀ x ∈ rs, x < 18446744073709551616) (hrl : rs.length ≤ 9223372036854775807) (hf : findL ws [] rs = some fs') :
    Calls Tryd.prog 50 #[.pointer (some ⟨g, 0, none⟩), .slice A rs.length c] w (BeginPost w base g gc cap gb gb2 size last L ws fs' 0) := by
  have hsm := h.small
  have hgl := h.gl
  have hcl := fun w' (hw' : HeapAt w' base g gc cap gb gb2 size last L ws) => cellsH_any w' hw'
  have hnb := fun w' => newBits_nat size hsm w'
  have H := Lib.hid h
  have HF := Lib.hid hf
  have HRs := Lib.hid hrs
  have HR := Lib.hid hr
  clear h hf hrs hr
  go_enter Tryd.func50, Tryd.ntmps50
  go_wp2_with fail
  refine (hcl _ H.out).mono ?_
  rintro e w0 ⟨rfl, rfl⟩
  go_wp2_with fail
  refine (hnb _).mono ?_
  rintro e w1 ⟨sb, sb2, rfl, hsb, hsb2, hB, hb1⟩
  have hs1 := hb1.size
  have HL := Lib.hid (show LookAt (w1.alloc (.cells #[.pointer (some ⟨g, 0, none⟩), .pointer (some ⟨sb, 0, none⟩), .slice none 0 0, .int .i64 0] 81)) base g gc cap gb gb2 size last w.heap.size w1.heap.size sb sb2 L ws [] 0 from
    ⟨(H.out.below hb1).below ((Below.refl _ _).alloc (Nat.le_refl _) _), H.out.gl, ⟨_, heap_alloc_new w1 _, rfl, .inl ⟨rfl, rfl⟩⟩, ⟨_, hB.below ((Below.refl w1.heap.size _).alloc (Nat.le_refl _) _) hB.gl hB.gl2, fun i => by simp [bitAt_zero]⟩, ⟨hs1, hsb, hsb2⟩, by simp, by simp, by simp; omega⟩)
  have hbw := Lib.hid (hb1.trans (((Below.refl w1.heap.size w1).alloc (Nat.le_refl _) (.cells #[.pointer (some ⟨g, 0, none⟩), .pointer (some ⟨sb, 0, none⟩), .slice none 0 0, .int .i64 0] 81)).mono hs1))
  clear hB hb1 hcl hnb hsb hsb2
  go_wp2_with fail
  generalize w1.heap.size = lk at *
  go_loopw [17] (fun v wr => ∃ (j : Nat) (fj : List Nat), j ≤ rs.length ∧ v = .int .i64 j ∧ Hid (findL ws fj (rs.drop j) = some fs') ∧ Hid (LookAt wr base g gc cap gb gb2 size last w.heap.size lk sb sb2 L ws fj 0) ∧ Hid (Below w.heap.size w wr)) (fun v _ => rs.length - (intOf v).toNat)
  case atStart => exact ⟨0, [], Nat.zero_le _, rfl, HF, HL, hbw⟩
  case round =>
    obtain ⟨j, fj, hj, rfl, HFj, HRl, HK⟩ := hrel
    clear HF HL hbw
    by_cases hlt : j < rs.length
    · obtain ⟨b, off, rfl, hbB, hcell⟩ := rdh_at (HR.out.below HK.out (Nat.le_refl _)) hlt
      have hask := HFj.out
      rw [List.drop_eq_getElem_cons hlt] at hask
      obtain ⟨f1, hf1, hf2⟩ := findL_cons hask
      have hx := HRs.out _ (List.getElem_mem hlt)
      have hcall := find_any rs[j] wr HRl.out hx hf1
      have HF2 := Lib.hid hf2
      clear hask hf1 hf2 HFj hx
      generalize rs[j] = x at hcell hcall
      go_wp2_with fail
      refine hcall.mono ?_
      rintro e w2 ⟨rfl, hL2, hK2⟩
      have H2 := Lib.hid hL2
      have K2 := Lib.hid (HK.out.trans (hK2.below (HRl.out.top)))
      clear hL2 hK2 HRl HK hcell hcall
      go_wp2_with fail
      go_roundw
      case rel => exact ⟨j + 1, f1, by omega, by simp, HF2, H2, K2⟩
      case measure => simp [intOf]; omega
    · have e : j = rs.length := by omega
      subst e
      have e : fj = fs' := by
        have := HFj.out
        rw [List.drop_length] at this
        simpa [findL] using this
      subst e
      go_wp2_with fail
      go_ret2
      exact ⟨_, _, _, rfl, HRl.out, HK.out⟩
end
end Go.Proofs.YtahmljjjdoaahaaDoor.Fl
