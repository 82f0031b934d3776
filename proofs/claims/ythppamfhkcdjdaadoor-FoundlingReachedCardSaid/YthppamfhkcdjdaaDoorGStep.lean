/-
  Steps in general; a heap's Clone and Same; Live; where something is loose, Collect changes nothing.
-/
import Derived.Test.YthppamfhkcdjdaaDoorPGColl
import Derived.Test.YthppamfhkcdjdaaDoorPAwM
namespace Go.Proofs.YthppamfhkcdjdaaDoor.Fl
open Go.RowKit

theorem exists_least (P : Nat → Prop) : ∀ n, P n → ∃ m, P m ∧ ∀ k, k < m → ¬ P k := by
  intro n
  induction n using Nat.strongRecOn with
  | ind n ih =>
    intro h
    by_cases h2 : ∃ k, k < n ∧ P k
    · obtain ⟨k, hk, hp⟩ := h2
      exact ih k hk hp
    · exact ⟨n, h, fun k hk hp => h2 ⟨k, hk, hp⟩⟩
section
variable {ld : Nat → List Nat} {ws fs0 : List Nat} {S : Nat → List Nat × Nat} {T : Nat}
theorem Waves.mono (h : Waves ld ws fs0 S T) {t : Nat} : ∀ d, t + d ≤ T → ∃ r, (S (t + d)).1 = (S t).1 ++ r
  | 0, _ => ⟨[], by simp⟩
  | d + 1, hd => by
    obtain ⟨r, hr⟩ := h.mono (t := t) d (by omega)
    obtain ⟨_, h2, _⟩ := h.step (t + d) (by omega)
    obtain ⟨r', hr'⟩ := askL_pre h2
    exact ⟨r ++ r', by rw [← Nat.add_assoc, hr', hr, List.append_assoc]⟩
theorem Waves.count (h : Waves ld ws fs0 S T) : ∀ t, t ≤ T → t ≤ (S t).2
  | 0, _ => Nat.zero_le _
  | t + 1, ht => by
    obtain ⟨h1, _, h3⟩ := h.step t (by omega)
    have := h.count t (by omega)
    omega
/-- at which wave something is met first -/
theorem Waves.met (h : Waves ld ws fs0 S T) {q : Nat} (hq : q ∈ (S T).1) : ∃ M, M < T ∧ ∀ t, t ≤ T → (q ∈ (S t).1 ↔ M ≤ t) := by
  have hT : 0 < T := by
    rcases Nat.eq_zero_or_pos T with e | e
    · subst e
      have h1 := h.stop
      rw [h.zero] at h1 hq
      have h2 := List.length_pos_of_mem hq
      simp only at h1 h2
      omega
    · exact e
  have hq1 : q ∈ (S (T - 1)).1 := by
    obtain ⟨_, h2, h3⟩ := h.step (T - 1) (by omega)
    rw [show T - 1 + 1 = T by omega] at h2 h3
    obtain ⟨r, hr⟩ := askL_pre h2
    have h4 := h.stop
    rw [h3, hr, List.length_append] at h4
    have : r = [] := List.eq_nil_of_length_eq_zero (by omega)
    rw [hr, this, List.append_nil] at hq
    exact hq
  obtain ⟨M, ⟨hM1, hM2⟩, hM3⟩ := exists_least (fun t => t ≤ T - 1 ∧ q ∈ (S t).1) (T - 1) ⟨Nat.le_refl _, hq1⟩
  refine ⟨M, by omega, fun t ht => ⟨fun hm => ?_, fun hm => ?_⟩⟩
  · rcases Nat.lt_or_ge t M with h1 | h1
    · exact absurd ⟨by omega, hm⟩ (hM3 t h1)
    · exact h1
  · obtain ⟨r, hr⟩ := h.mono (t := M) (t - M) (by omega)
    rw [show M + (t - M) = t by omega] at hr
    rw [hr]
    exact List.mem_append_left _ hM2
end
section
variable {base g gc cap gb gb2 size last : Nat} {L : List Nat} {os : List Ob} {ws fs : List Nat}
def StPost (n z : Int) (w : World) (e : Ending) (w' : World) : Prop := e = .returned (.tuple #[.int .i64 n, .int .i64 z]) ∧ Below w.heap.size w w'
set_option maxHeartbeats 4000000 in
theorem steps_none {ld : Nat → List Nat} {fs0 : List Nat} {S : Nat → List Nat × Nat} {T : Nat} (p q : Nat) (w : World) (hG : Leads ld L ws) (h : HeapAt w base g gc cap gb gb2 size last L ws) (hp : isP ws p) (hq : isP ws q) (hf : findL ws [] [p] = some fs0) (hS : Waves ld ws fs0 S T) (hm : q ∉ (S T).1) (hT : T ≤ 16777216) :
    Calls Tryd.prog 24 #[.pointer (some ⟨g, 0, none⟩), .int .u64 (p : Int), .int .u64 (q : Int)] w (StPost 0 6 w) := by
  have hpp := hp
  obtain ⟨i, rfl⟩ : ∃ i, p = 2 * i := ⟨p / 2, by have := hp.1; omega⟩
  obtain ⟨j, rfl⟩ : ∃ j, q = 2 * j := ⟨q / 2, by have := hq.1; omega⟩
  have hhp := fun w' (hw' : HeapAt w' base g gc cap gb gb2 size last L ws) => hhas_any i w' hw' (by have := hp.2.1; omega) (by have := hp.2.2.1; omega)
  have hhq := fun w' (hw' : HeapAt w' base g gc cap gb gb2 size last L ws) => hhas_any j w' hw' (by have := hq.2.1; omega) (by have := hq.2.2.1; omega)
  have b1 := hp.2.2.2
  have b2 := hq.2.2.2
  rw [show 2 * i / 2 = i by omega] at b1
  rw [show 2 * j / 2 = j by omega] at b2
  rw [b1, show ((i : Int) * 2) = ((2 * i : Nat) : Int) by omega] at hhp
  rw [b2, show ((j : Int) * 2) = ((2 * j : Nat) : Int) by omega] at hhq
  have hat := fun w' => at_in ((2 * j : Nat) : Int) w' (by have := hq.2.1; omega) (by have := hq.2.2.1; omega) (by omega)
  rw [show ((2 * j : Nat) : Int) / 2 = (j : Int) by omega] at hat
  have hbg := fun w' (hw' : HeapAt w' base g gc cap gb gb2 size last L ws) hr => begin_any [2 * i] (some ⟨w.heap.size, 0, none⟩) 1 w' hw' hr (by intro x hx; simp at hx; have := hpp.2.2.1; omega) (by simp) hf
  have hno : ∀ t, t ≤ T → 2 * j ∉ (S t).1 := fun t ht hm2 => by
    obtain ⟨r, hr⟩ := hS.mono (t := t) (T - t) (by omega)
    rw [show t + (T - t) = T by omega] at hr
    exact hm (by rw [hr]; exact List.mem_append_left _ hm2)
  have HG := Lib.hid hG
  have HS := Lib.hid hS
  have H := Lib.hid h
  have HM := Lib.hid hno
  clear hG hS h hp hq hpp hf hm b1 b2 hno
  generalize 2 * i = p at *
  generalize hqj : 2 * j = q at *
  have HJ := Lib.hid hqj
  clear hqj
  go_enter Tryd.func24, Tryd.ntmps24
  go_wp2_with (first
    | (go_at_call 56; (with_reducible refine (hat _).mono ?_); rintro e w' ⟨rfl, rfl⟩)
    | (go_at_call 57; (with_reducible refine (hhp _ H.out).mono ?_); rintro e w' ⟨rfl, rfl⟩)
    | (go_at_call 57; (with_reducible refine (hhq _ H.out).mono ?_); rintro e w' ⟨rfl, rfl⟩))
  refine (hbg _ (H.out.below ((Below.refl _ _).alloc (Nat.le_refl _) _)) (rd_one w p)).mono ?_
  rintro e w1 ⟨lk, sb, sb2, rfl, hL1, hb1⟩
  have H1 := Lib.hid hL1
  have B1 := Lib.hid (((Below.refl _ _).alloc (Nat.le_refl _) _).trans (hb1.mono (by simp)))
  clear hL1 hb1 hbg hhp hhq hat
  obtain ⟨LB, hLB⟩ : ∃ LB, (w.alloc (.cells #[.int .u64 (p : Int)] 49)).heap.size = LB := ⟨_, rfl⟩
  have HLB := Lib.hid (show w.heap.size ≤ LB by rw [← hLB]; simp)
  rw [hLB] at H1
  clear hLB
  go_wp2_with fail
  go_loopw [11, 12, 13] (fun v u _ wr => ∃ t : Nat, t ≤ T ∧ v = .int .i64 (t : Int) ∧ u = .bool false ∧ Hid (LookAt wr base g gc cap gb gb2 size last LB lk sb sb2 L ws (S t).1 (S t).2) ∧ Hid (Below w.heap.size w wr)) (fun _ _ _ wr => size + 1 - askedOf wr lk)
  case atStart => exact ⟨0, Nat.zero_le _, rfl, rfl, Lib.hid (by rw [HS.out.zero]; exact H1.out), B1⟩
  case round =>
    obtain ⟨t, ht, rfl, rfl, HR, HB⟩ := hrel
    clear H1 B1
    have hmore := more_any wr HR.out
    by_cases hlt : t < T
    · rw [decide_eq_true ((HS.out.lt ht).2 hlt)] at hmore
      have hle := HS.out.le t ht
      obtain ⟨s1, s2, s3⟩ := HS.out.step t hlt
      have hwave := fun w' (hw' : LookAt w' base g gc cap gb gb2 size last LB lk sb sb2 L ws (S t).1 (S t).2) => wave_any (fs' := (S (t + 1)).1) w' HG.out hw' hle s2
      have HMe := Lib.hid (show (S t).2 < (S (t + 1)).2 by rw [s3]; exact s1)
      rw [← s3] at hwave
      have HT := Lib.hid hlt
      have ht9 : t ≤ 16777216 := by omega
      have HQ := Lib.hid (HM.out t ht)
      clear s1 s2 s3 hle hlt ht
      go_wp2_with fail
      refine hmore.mono ?_
      rintro e w2 ⟨rfl, hb2⟩
      have H2 := Lib.hid (HR.out.keep hb2)
      have K2 := Lib.hid (HB.out.trans (hb2.mono (Nat.le_trans HLB.out HR.out.top)))
      clear hb2 hmore HB
      obtain ⟨d0, d1, d3, df, dlt⟩ := H2.out.c
      obtain ⟨bs, hbs, hmem⟩ := H2.out.bits
      have hhas := has_any w2 j hbs
      have hbt : bitAt bs j = false := by
        cases hc : bitAt bs j with
        | false => rfl
        | true =>
          have h1 := (hmem j).1 hc
          rw [HJ.out] at h1
          exact absurd h1 HQ.out
      rw [hbt] at hhas
      clear hbs hmem hbt
      go_wp2_with (go_at_call 60; (with_reducible refine hhas.mono ?_); rintro e w' ⟨rfl, rfl⟩)
      refine (hwave _ H2.out).mono ?_
      rintro e w3 ⟨rfl, hL3, hK3⟩
      have H3 := Lib.hid hL3
      have K3 := Lib.hid (K2.out.trans ((hK3.below H2.out.top).mono HLB.out))
      clear hL3 hK3 hwave H2 K2 hhas d0 d1 d3 df dlt
      go_wp2_with fail
      go_roundw
      case rel => exact ⟨t + 1, HT.out, by simp, rfl, H3, K3⟩
      case measure =>
        rw [H3.out.asked, HR.out.asked]
        have h1 := HMe.out
        have h2 := HS.out.le (t + 1) HT.out
        have h3 := H3.out.len
        omega
    · have e : t = T := by omega
      subst e
      rw [decide_eq_false (fun h => hlt ((HS.out.lt ht).1 h))] at hmore
      go_wp2_with fail
      refine hmore.mono ?_
      rintro e w2 ⟨rfl, hb2⟩
      have K2 := Lib.hid (HB.out.trans (hb2.mono (Nat.le_trans HLB.out HR.out.top)))
      clear hb2 hmore HB HR
      go_wp2_with fail
      go_ret2
      exact ⟨rfl, K2.out⟩
/-- Steps from one to another, nothing behind the one being loose -/
theorem steps_obs {p q : Nat} {fs0 : List Nat} {S : Nat → List Nat × Nat} {T : Nat} {fp : List Nat} (hF : Found0 os ws [p] fs0 S T fp) (hp : isP ws p) (hq : isP ws q) :
    ∃ n z : Int, ((z = 0 ∧ ∃ M : Nat, n = M ∧ M < T ∧ ∀ t, t ≤ T → (q ∈ (S t).1 ↔ M ≤ t)) ∨ (z = 6 ∧ n = 0 ∧ q ∉ fp)) ∧
      ∀ (w : World) (base g gc cap gb gb2 size last : Nat), ObsAt w base g gc cap gb gb2 size last os ws → Calls Tryd.prog 24 #[.pointer (some ⟨g, 0, none⟩), .int .u64 (p : Int), .int .u64 (q : Int)] w (StPost n z w) := by
  have hTs : ∀ (w : World) (base g gc cap gb gb2 size last : Nat), ObsAt w base g gc cap gb gb2 size last os ws → T ≤ 16777216 := fun w base g gc cap gb gb2 size last h => by
    have h1 := hF.waves.count T (Nat.le_refl _)
    rw [hF.waves.stop, hF.all] at h1
    have h2 := good_len h.heap hF.led.good
    have := h.heap.small
    omega
  by_cases hm : q ∈ fp
  · obtain ⟨M, h1, h2⟩ := hF.waves.met (q := q) (by rw [hF.all]; exact hm)
    refine ⟨M, 0, .inl ⟨rfl, M, rfl, h1, h2⟩, fun w base g gc cap gb gb2 size last h => ?_⟩
    exact steps_any p q w h.graph.leads h.heap hp hq hF.find hF.waves h1 h2 (by have := hTs w base g gc cap gb gb2 size last h; omega)
  · refine ⟨0, 6, .inr ⟨rfl, rfl, hm⟩, fun w base g gc cap gb gb2 size last h => ?_⟩
    exact steps_none p q w h.graph.leads h.heap hp hq hF.find hF.waves (by rw [hF.all]; exact hm) (hTs w base g gc cap gb gb2 size last h)
end
end Go.Proofs.YthppamfhkcdjdaaDoor.Fl
